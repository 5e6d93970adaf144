/-
  The journal's small functions: over, First, Next of no log, operated, discard. The journal's numberOut, encode, replace. The journal's replace. The journal's open, and decode of no bytes; mend. A log as it lies beside its disk; Open of a disk without one. The journal's Append. The journal's Sync and Get. A new log; the law's 'opened' and 'awake'. The journal's Trim: its range, and a trim of nothing. slices.Delete of the first records of a log. The journal's Trim of some records. For JournalNil: Open of no disk, and Trim of a log of one record at most.
-/
import Derived.Test.YtplcpjngpkghmaaFo
import Derived.Test.YtplcpjngpkghmaaRt
import Derived.Deep.OwnRows
import Derived.Deep.RegionLaw
import Derived.Deep.AppendLies
import Derived.Lib.SliceRun
namespace Go.Proofs.Ytplcpjngpkghmaa
open Go.RowKit Go.Maps

theorem k3 {w : World} {g : Nat} {a b c : Value} {t : TypeId} (h : w.heap[g]? = some (.cells #[a, b, c] t (0, 0))) : w.cell? ⟨g, 0, none⟩ = some a ∧ w.cell? ⟨g, 1, none⟩ = some b ∧ w.cell? ⟨g, 2, none⟩ = some c :=
  ⟨Lib.cell_of_heap h 0, Lib.cell_of_heap h 1, Lib.cell_of_heap h 2⟩
def nmL : List UInt8 := [108, 111, 103]
def nmS : List UInt8 := [108, 111, 103, 46, 110, 101, 119]

set_option maxHeartbeats 400000 in
theorem over_nil (w : World) : Calls Try.prog 42 #[.pointer none] w fun e w' => e = .returned (.bool true) ∧ w' = w := by
  go_enter Try.func42, Try.ntmps42
  go_wp2_with fail
  go_ret
  exact ⟨rfl, rfl⟩
set_option maxHeartbeats 400000 in
theorem over_yes (w : World) (lb : Nat) (x y : Value) (h : Hid (w.heap[lb]? = some (.cells #[.pointer none, x, y] 77 (0, 0)))) : Calls Try.prog 42 #[.pointer (some ⟨lb, 0, none⟩)] w fun e w' => e = .returned (.bool true) ∧ w' = w := by
  obtain ⟨e0, e1, e2⟩ := k3 h.out
  go_enter Try.func42, Try.ntmps42
  go_wp2_with fail
  go_ret
  exact ⟨rfl, rfl⟩
set_option maxHeartbeats 400000 in
theorem over_no (w : World) (lb : Nat) (a : Addr) (x y : Value) (h : Hid (w.heap[lb]? = some (.cells #[.pointer (some a), x, y] 77 (0, 0)))) : Calls Try.prog 42 #[.pointer (some ⟨lb, 0, none⟩)] w fun e w' => e = .returned (.bool false) ∧ w' = w := by
  obtain ⟨e0, e1, e2⟩ := k3 h.out
  go_enter Try.func42, Try.ntmps42
  go_wp2_with fail
  go_ret
  exact ⟨rfl, rfl⟩
set_option maxHeartbeats 400000 in
theorem first_nil (w : World) : Calls Try.prog 21 #[.pointer none] w fun e w' => e = .returned (.int .i64 0) ∧ w' = w := by
  go_enter Try.func21, Try.ntmps21
  go_wp2_with fail
  go_ret
  exact ⟨rfl, rfl⟩
set_option maxHeartbeats 400000 in
theorem first_at (w : World) (lb : Nat) (x z : Value) (f : Int) (h : Hid (w.heap[lb]? = some (.cells #[x, .int .i64 f, z] 77 (0, 0)))) : Calls Try.prog 21 #[.pointer (some ⟨lb, 0, none⟩)] w fun e w' => e = .returned (.int .i64 f) ∧ w' = w := by
  obtain ⟨e0, e1, e2⟩ := k3 h.out
  go_enter Try.func21, Try.ntmps21
  go_wp2_with fail
  go_ret
  exact ⟨rfl, rfl⟩
set_option maxHeartbeats 400000 in
theorem next_nil (w : World) : Calls Try.prog 22 #[.pointer none] w fun e w' => e = .returned (.int .i64 0) ∧ w' = w := by
  go_enter Try.func22, Try.ntmps22
  go_wp2_with fail
  go_ret
  exact ⟨rfl, rfl⟩
set_option maxHeartbeats 400000 in
theorem next_at (w : World) (lb : Nat) (x : Value) (f : Int) (q : Option Addr) (n c : Nat) (hf : 0 ≤ f) (hn : f + (n : Int) < 9223372036854775808) (h : Hid (w.heap[lb]? = some (.cells #[x, .int .i64 f, .slice q n c] 77 (0, 0)))) : Calls Try.prog 22 #[.pointer (some ⟨lb, 0, none⟩)] w fun e w' => e = .returned (.int .i64 (f + n)) ∧ Below w.heap.size w w' := by
  obtain ⟨e0, e1, e2⟩ := k3 h.out
  go_enter Try.func22, Try.ntmps22
  go_wp2_with fail
  go_quiet (fail)
  go_wp2_with fail
  go_ret
  exact ⟨rfl, below_drewN (Below.refl _ _) _⟩

/-- what the log tells of its disk's answer -/
def oprD (e : Int) : Int := if e = 0 then 0 else if e = 6 ∨ e = 1 then 6 else 11
set_option maxHeartbeats 400000 in
theorem opr_ok (w : World) (p : Value) : Calls Try.prog 44 #[p, .int .i64 0] w fun e w' => e = .returned (.int .i64 0) ∧ w' = w := by
  go_enter Try.func44, Try.ntmps44
  go_wp2_with fail
  go_ret
  exact ⟨rfl, rfl⟩
set_option maxHeartbeats 400000 in
theorem opr_full (w : World) (p : Value) (e : Int) (h : e = 6 ∨ e = 1) : Calls Try.prog 44 #[p, .int .i64 e] w fun e w' => e = .returned (.int .i64 6) ∧ w' = w := by
  rcases h with rfl | rfl
  all_goals
    go_enter Try.func44, Try.ntmps44
    go_wp2_with fail
    go_ret
    exact ⟨rfl, rfl⟩
set_option maxHeartbeats 400000 in
theorem opr_lost (w : World) (lb : Nat) (x y z : Value) (e : Int) (h0 : (e == 0) = false) (h6 : (e == 6) = false) (h1 : (e == 1) = false) (h : Hid (w.heap[lb]? = some (.cells #[x, y, z] 77 (0, 0)))) : Calls Try.prog 44 #[.pointer (some ⟨lb, 0, none⟩), .int .i64 e] w fun e w' => e = .returned (.int .i64 11) ∧ w' = w.setCell ⟨lb, 0, none⟩ (.pointer none) := by
  obtain ⟨e0, e1, e2⟩ := k3 h.out
  have f0 := fz h.out 0
  go_enter Try.func44, Try.ntmps44
  go_wp2_with fail
  go_ret
  exact ⟨rfl, rfl⟩

/-! ### discard -/
def discardD (D : DK) : Int × DK := if (removeD D nmS).1 = 3 then (0, (removeD D nmS).2) else removeD D nmS
set_option maxHeartbeats 400000 in
theorem discard_at (w : World) (p : Value) (R : World → Prop) (H : Hid (Calls Try.prog 31 #[p, .string ⟨#[108, 111, 103, 46, 110, 101, 119]⟩] w fun e w' => e = .returned (.int .i64 3) ∧ R w')) :
    Calls Try.prog 59 #[p] w fun e w' => e = .returned (.int .i64 0) ∧ R w' := by
  go_enter Try.func59, Try.ntmps59
  go_wp2_with (go_at_call 31; refine H.out.mono ?_)
  rintro e w1 ⟨rfl, h1⟩
  go_wp2_with fail
  go_ret
  exact ⟨rfl, h1⟩
set_option maxHeartbeats 400000 in
theorem discard_no (w : World) (p : Value) (c : Int) (hc : (c != 3) = true) (R : World → Prop) (H : Hid (Calls Try.prog 31 #[p, .string ⟨#[108, 111, 103, 46, 110, 101, 119]⟩] w fun e w' => e = .returned (.int .i64 c) ∧ R w')) :
    Calls Try.prog 59 #[p] w fun e w' => e = .returned (.int .i64 c) ∧ R w' := by
  go_enter Try.func59, Try.ntmps59
  go_wp2_with (go_at_call 31; refine H.out.mono ?_)
  rintro e w1 ⟨rfl, h1⟩
  go_wp2_with fail
  go_ret
  exact ⟨rfl, h1⟩
theorem discard_any {w : World} {tg : Nat → Tg} {pb : Nat} {D : DK} (h : Dsk w tg pb D) :
    Calls Try.prog 59 #[.pointer (some ⟨pb, 0, none⟩)] w fun e w' => e = .returned (.int .i64 (discardD D).1) ∧ Dsk w' tg pb (discardD D).2 ∧ Step tg tg w w' := by
  have H := remove_any h ⟨⟨nmS⟩⟩ (by decide)
  unfold discardD
  by_cases h3 : (removeD D nmS).1 = 3
  · rw [if_pos h3]
    have H' : Calls Try.prog 31 #[.pointer (some ⟨pb, 0, none⟩), .string ⟨#[108, 111, 103, 46, 110, 101, 119]⟩] w fun e w' => e = .returned (.int .i64 3) ∧ Dsk w' tg pb (removeD D nmS).2 ∧ Step tg tg w w' := by
      rw [← h3]; exact H
    exact discard_at w _ _ H'
  · rw [if_neg h3]
    exact discard_no w _ _ (by simpa using h3) _ H
end Go.Proofs.Ytplcpjngpkghmaa

namespace Go.Proofs.Ytplcpjngpkghmaa
open Go.RowKit Go.Maps

theorem make8 (w : World) : (Instr.makeSlice 31 (.int .i64 8) (.int .i64 8)).run Try.prog w = .ok (.slice (some ⟨w.heap.size, 0, none⟩) 8 8) (w.alloc (.cells #[.int .u8 0, .int .u8 0, .int .u8 0, .int .u8 0, .int .u8 0, .int .u8 0, .int .u8 0, .int .u8 0] 5)) := by
  have h := run_make_row' (P := Try.prog) 31 5 (.int .u8 0) 1 Try.underlying31 info5 rfl .i64 .i64 8 (by omega) (by omega) w
  rw [show ((8 : Nat) : Int) = 8 from rfl] at h
  rw [h, show madeCells #[Value.int .u8 0] 8 = #[.int .u8 0, .int .u8 0, .int .u8 0, .int .u8 0, .int .u8 0, .int .u8 0, .int .u8 0, .int .u8 0] by kernel_rfl]
/-- eight bytes of a number -/
def num8 (n : Nat) : List UInt8 := [UInt8.ofNat n, UInt8.ofNat (n / 256), UInt8.ofNat (n / 65536), UInt8.ofNat (n / 16777216), UInt8.ofNat (n / 4294967296), UInt8.ofNat (n / 1099511627776), UInt8.ofNat (n / 281474976710656), UInt8.ofNat (n / 72057594037927936)]
def num8C (n : Nat) : Array Value := #[.int .u8 ((n : Int) % 256), .int .u8 ((n : Int) / 256 % 256), .int .u8 ((n : Int) / 65536 % 256), .int .u8 ((n : Int) / 16777216 % 256), .int .u8 ((n : Int) / 4294967296 % 256), .int .u8 ((n : Int) / 1099511627776 % 256), .int .u8 ((n : Int) / 281474976710656 % 256), .int .u8 ((n : Int) / 72057594037927936)]
theorem byt (k : Nat) (z : Int) (h : z = ((k % 256 : Nat) : Int)) : Value.int .u8 z = .int .u8 ((UInt8.ofNat k).toNat : Int) := by rw [UInt8.toNat_ofNat', h]
theorem num8C_eq {n : Nat} (hn : n < 9223372036854775808) : (num8C n).toList = bv (num8 n) := by
  unfold num8C num8 bv
  simp only [List.map_cons, List.map_nil]
  rw [byt n ((n : Int) % 256) (by omega), byt (n / 256) ((n : Int) / 256 % 256) (by omega), byt (n / 65536) ((n : Int) / 65536 % 256) (by omega), byt (n / 16777216) ((n : Int) / 16777216 % 256) (by omega), byt (n / 4294967296) ((n : Int) / 4294967296 % 256) (by omega), byt (n / 1099511627776) ((n : Int) / 1099511627776 % 256) (by omega), byt (n / 281474976710656) ((n : Int) / 281474976710656 % 256) (by omega), byt (n / 72057594037927936) ((n : Int) / 72057594037927936) (by omega)]
theorem own_num {w : World} {n : Nat} (hn : n < 9223372036854775808) : Own (w.alloc (.cells (num8C n) 5)) w.heap.size (.slice (some ⟨w.heap.size, 0, none⟩) 8 8) (num8 n) := by
  refine ⟨by rw [bv_length, Nat.mul_one], .inr ⟨w.heap.size, 8, num8C n, rfl, Nat.le_refl _, new0, Nat.le_refl _, by decide, rfl, ?_⟩⟩
  rw [num8C_eq hn]
  rfl
set_option maxHeartbeats 1000000 in
set_option maxRecDepth 100000 in
theorem num_out (n : Nat) (hn : n < 9223372036854775808) (w : World) :
    Calls Try.prog 69 #[.int .i64 n] w fun e w' => ∃ q c, e = .returned (.slice q 8 c) ∧ Own w' w.heap.size (.slice q 8 c) (num8 n) ∧ Below w.heap.size w w' := by
  have hmk := make8
  go_enter Try.func69, Try.ntmps69
  go_wp2_with fail
  go_rounds 9
  go_ret
  exact ⟨_, _, rfl, own_num hn, (Below.refl _ w).alloc (Nat.le_refl _) _⟩

/-- a record as it lies -/
structure RC where
  b : List UInt8
  a : Option Addr
  c : Nat
def RC.v (r : RC) : Value := .slice r.a r.b.length r.c
def RowV (w : World) (g o : Nat) (xs : List Value) : Prop := ∀ (k : Nat) (u : Value), xs[k]? = some u → w.cell? ⟨g, o + k, none⟩ = some u
theorem RowV.keep {w w1 : World} {g o B : Nat} {xs : List Value} (b : Below B w w1) (hB : w.heap.size ≤ B) (h : RowV w g o xs) : RowV w1 g o xs := fun k u hu => by
  have h0 := h k u hu
  exact (b.cell (Nat.lt_of_lt_of_le (block_lt_of_cell h0) hB)).trans h0
structure RcOk (w : World) (r : RC) : Prop where
  hL : Lies w r.a r.b
  hz : r.a = none → r.c = 0
  hl : r.b.length ≤ 4080
theorem RcOk.keep {w w1 : World} {r : RC} (h : RcOk w r) (b : Below w.heap.size w w1) : RcOk w1 r := ⟨h.hL.keep b (Nat.le_refl _), h.hz, h.hl⟩
/-- the log's file -/
def encB (first : Nat) (recs : List (List UInt8)) : List UInt8 := Crc.frame (num8 first) ++ recs.flatMap Crc.frame
theorem encB_snoc (first : Nat) (l : List RC) (k : Nat) (r : RC) (h : l[k]? = some r) : encB first ((l.map RC.b).take (k + 1)) = encB first ((l.map RC.b).take k) ++ Crc.frame r.b := by
  obtain ⟨hk, rfl⟩ := List.getElem?_eq_some_iff.1 h
  unfold encB
  rw [List.take_succ_eq_append_getElem (by rw [List.length_map]; exact hk), List.flatMap_append, List.append_assoc]
  simp
theorem encB_len (first : Nat) : ∀ (l : List RC), (∀ r ∈ l, r.b.length ≤ 4080) → (encB first (l.map RC.b)).length ≤ 16 + 4088 * l.length
  | [], _ => by unfold encB; simp [Crc.frame_length]; exact Nat.le_refl _
  | r :: l, h => by
    have ih := encB_len first l fun r hr => h r (List.mem_cons_of_mem _ hr)
    have h0 := h r (List.mem_cons_self ..)
    unfold encB at ih ⊢
    simp only [List.map_cons, List.flatMap_cons, List.length_append, Crc.frame_length, List.length_cons] at ih ⊢
    omega

set_option maxHeartbeats 1000000 in
set_option maxRecDepth 100000 in
theorem encode_some (first : Nat) (hf : first < 9223372036854775808) (l : List RC) (g o c n : Nat) (w : World) (hl : Hid (l.length = n)) (hn : n ≤ 1048576) (hr : Hid (RowV w g o (l.map RC.v))) (hk : Hid (∀ r ∈ l, RcOk w r)) :
    Calls Try.prog 60 #[.int .i64 first, .slice (some ⟨g, o, none⟩) n c] w fun e w' => ∃ v, e = .returned v ∧ Own w' w.heap.size v (encB first (l.map RC.b)) ∧ Below w.heap.size w w' := by
  have N8 : Hid ((num8 first).length = 8) := rfl
  go_enter Try.func60, Try.ntmps60
  go_wp2_with (go_at_call 69; refine (num_out first hf w).mono ?_)
  rintro e w1 ⟨q1, c1, rfl, o1, b1⟩
  have F1 : Hid (Calls Try.prog 43 #[.slice q1 8 c1] w1 fun e w' => ∃ q c', e = .returned (.tuple #[.slice q 16 c', .int .i64 0]) ∧ Own w' w1.heap.size (.slice q 16 c') (Crc.frame (num8 first)) ∧ Below w1.heap.size w1 w') := frame_any (num8 first) q1 c1 w1 (show 8 ≤ 4096 by omega) (own_parts o1).1 (own_parts o1).2.1
  have B1 : Hid (Below w.heap.size w w1) := b1
  clear o1 b1
  go_wp2_with (go_at_call 43; refine F1.out.mono ?_)
  rintro e w2 ⟨q2, c2, rfl, o2, b2⟩
  have B2 : Hid (Below w.heap.size w w2) := below_from B1.out b2 B1.out.size
  have O2 : Hid (Own w2 w.heap.size (.slice q2 16 c2) (encB first ((l.map RC.b).take 0))) := by
    refine (?_ : Own w2 w.heap.size (.slice q2 16 c2) (encB first ((l.map RC.b).take 0)))
    have := o2.low B1.out.size
    unfold encB
    simpa using this
  clear o2 b2 F1 B1
  go_wp2_with fail
  go_loopw [5, 19] (fun v i wr => ∃ (k : Nat) (q : Option Addr) (j c' : Nat), v = .slice q j c' ∧ i = .int .i64 k ∧ k ≤ n ∧ Own wr w.heap.size (.slice q j c') (encB first ((l.map RC.b).take k)) ∧ Below w.heap.size w wr) (fun _ i _ => n - (intOf i).toNat)
  case atStart => exact ⟨0, q2, 16, c2, rfl, rfl, Nat.zero_le _, O2.out, B2.out⟩
  case round =>
    obtain ⟨k, q, j, c', rfl, rfl, hkn, ho, hb⟩ := hrel
    have HO : Hid (Own wr w.heap.size (.slice q j c') (encB first ((l.map RC.b).take k))) := ho
    have HB : Hid (Below w.heap.size w wr) := hb
    clear ho hb O2 B2
    by_cases hlt : k < n
    · obtain ⟨r, hr0⟩ : ∃ r, l[k]? = some r := ⟨l[k]'(by have := hl.out; omega), List.getElem?_eq_getElem _⟩
      have h0 := hr.out.keep HB.out (Nat.le_refl _) k r.v (by rw [List.getElem?_map, hr0]; rfl)
      have hok := (hk.out r (List.mem_of_getElem? hr0)).keep HB.out
      have hi : (k : Int) < (n : Int) := by omega
      have HX : Hid (encB first ((l.map RC.b).take (k + 1)) = encB first ((l.map RC.b).take k) ++ Crc.frame r.b) := encB_snoc first l k r hr0
      have F3 : Hid (Calls Try.prog 43 #[.slice r.a r.b.length r.c] wr fun e w' => ∃ q c', e = .returned (.tuple #[.slice q (r.b.length + 8 : Nat) c', .int .i64 0]) ∧ Own w' wr.heap.size (.slice q (r.b.length + 8 : Nat) c') (Crc.frame r.b) ∧ Below wr.heap.size wr w') := frame_any r.b r.a r.c wr (by have := hok.hl; omega) hok.hL hok.hz
      have HL : Hid ((encB first ((l.map RC.b).take k)).length ≤ 16 + 4088 * 1048576) := by
        rw [← List.map_take]
        refine Nat.le_trans (encB_len first (l.take k) fun r hr => (hk.out r (List.mem_of_mem_take hr)).hl) ?_
        have : (l.take k).length ≤ 1048576 := by rw [List.length_take]; omega
        omega
      have HR : Hid (r.b.length ≤ 4080) := hok.hl
      unfold RC.v at h0
      clear hr0 hok
      go_wp2_with (go_at_call 43; refine F3.out.mono ?_)
      first | rintro e w3 q3 c3 rfl o3 b3 | rintro e w3 ⟨q3, c3, rfl, o3, b3⟩
      have O3 : Hid (Own w3 w.heap.size (.slice q j c') (encB first ((l.map RC.b).take k))) := HO.out.keep b3
      have B3 : Hid (Below w.heap.size w w3) := below_from HB.out b3 HB.out.size
      have P3 : Hid (Lies w3 q3 (Crc.frame r.b) ∧ (q3 = none → c3 = 0) ∧ (Crc.frame r.b).length = r.b.length + 8) := own_parts o3
      clear o3 b3 F3
      go_wp2_with (at_builtin; refine append_bytes rfl _ _ rfl w.heap.size _ _ (Crc.frame r.b) rfl O3.out q3 c3 (r.b.length + 8) rfl P3.out.2.2 P3.out.2.1 P3.out.1 ?_ B3.out.size ?_)
      · have h1 := HL.out
        have h2 := P3.out.2.2
        have h3 := HR.out
        omega
      intro v4 w4 o4 b4
      obtain ⟨q4, c4', rfl, -⟩ := o4.shape
      go_wp2_with fail
      refine ⟨⟨k + 1, q4, _, c4', rfl, by go_num, by omega, by rw [HX.out]; exact o4, B3.out.trans b4⟩, ?_⟩
      simp [intOf]; omega
    · have hi : ¬ (k : Int) < (n : Int) := by omega
      have HE : Hid (encB first ((l.map RC.b).take k) = encB first (l.map RC.b)) := by
        refine (?_ : _ = _)
        rw [List.take_of_length_le (by rw [List.length_map]; have := hl.out; omega)]
      go_wp2_with fail
      go_ret
      exact ⟨_, rfl, by have := HO.out; rw [HE.out] at this; exact this, HB.out⟩
end Go.Proofs.Ytplcpjngpkghmaa

namespace Go.Proofs.Ytplcpjngpkghmaa
open Go.RowKit Go.Maps

set_option maxHeartbeats 1000000 in
set_option maxRecDepth 100000 in
theorem encode_zero (first : Nat) (hf : first < 9223372036854775808) (a : Option Addr) (c : Nat) (w : World) :
    Calls Try.prog 60 #[.int .i64 first, .slice a 0 c] w fun e w' => ∃ v, e = .returned v ∧ Own w' w.heap.size v (encB first []) ∧ Below w.heap.size w w' := by
  go_enter Try.func60, Try.ntmps60
  go_wp2_with (go_at_call 69; refine (num_out first hf w).mono ?_)
  rintro e w1 ⟨q1, c1, rfl, o1, b1⟩
  have F1 : Hid (Calls Try.prog 43 #[.slice q1 8 c1] w1 fun e w' => ∃ q c', e = .returned (.tuple #[.slice q 16 c', .int .i64 0]) ∧ Own w' w1.heap.size (.slice q 16 c') (Crc.frame (num8 first)) ∧ Below w1.heap.size w1 w') := frame_any (num8 first) q1 c1 w1 (show 8 ≤ 4096 by omega) (own_parts o1).1 (own_parts o1).2.1
  have B1 : Hid (Below w.heap.size w w1) := b1
  clear o1 b1
  go_wp2_with (go_at_call 43; refine F1.out.mono ?_)
  rintro e w2 ⟨q2, c2, rfl, o2, b2⟩
  have B2 : Hid (Below w.heap.size w w2) := below_from B1.out b2 B1.out.size
  have O2 : Hid (Own w2 w.heap.size (.slice q2 16 c2) (encB first [])) := by
    refine (?_ : Own w2 w.heap.size (.slice q2 16 c2) (encB first []))
    have := o2.low B1.out.size
    unfold encB
    simpa using this
  clear o2 b2 F1 B1
  go_wp2_with fail
  go_rounds 1
  go_ret
  exact ⟨_, rfl, O2.out, B2.out⟩

/-- records that lie off a disk -/
def RecOff (w : World) (tg : Nat → Tg) (v : Value) (l : List RC) : Prop :=
  ((∃ a c, v = .slice a 0 c ∧ l = []) ∨ ∃ g o c, v = .slice (some ⟨g, o, none⟩) l.length c ∧ RowV w g o (l.map RC.v) ∧ g < w.heap.size ∧ tg g = .no) ∧ l.length ≤ 1048576 ∧ ∀ r ∈ l, LiesOff w tg r.a r.b ∧ (r.a = none → r.c = 0) ∧ r.b.length ≤ 4080
theorem RecOff.step {w w' : World} {tg tg' : Nat → Tg} {v : Value} {l : List RC} (h : RecOff w tg v l) (st : Step tg tg' w w') : RecOff w' tg' v l := by
  refine ⟨?_, h.2.1, fun r hr => ⟨(h.2.2 r hr).1.step st, (h.2.2 r hr).2⟩⟩
  rcases h.1 with h1 | ⟨g, o, c, h1, h2, h3, h4⟩
  · exact .inl h1
  · refine .inr ⟨g, o, c, h1, fun k u hu => ?_, Nat.lt_of_lt_of_le h3 st.1.size, ?_⟩
    · exact (World.cell?_of_block (a := ⟨g, o + k, none⟩) (st.1.block g h3 fun e => e h4)).trans (h2 k u hu)
    · by_cases h5 : tg' g = .no
      · exact h5
      · rcases st.2 g h5 with h6 | h6
        · exact absurd h4 h6
        · omega
theorem encode_any {w : World} {tg : Nat → Tg} {v : Value} {l : List RC} (h : RecOff w tg v l) (first : Nat) (hf : first < 9223372036854775808) :
    Calls Try.prog 60 #[.int .i64 first, v] w fun e w' => ∃ v, e = .returned v ∧ Own w' w.heap.size v (encB first (l.map RC.b)) ∧ Below w.heap.size w w' := by
  rcases h.1 with ⟨a, c, rfl, rfl⟩ | ⟨g, o, c, rfl, h2, h3, h4⟩
  · exact encode_zero first hf a c w
  · exact encode_some first hf l g o c l.length w rfl h.2.1 h2 fun r hr => ⟨(h.2.2 r hr).1.lies, (h.2.2 r hr).2.1, (h.2.2 r hr).2.2⟩

def replaceD (D : DK) (first : Nat) (recs : List (List UInt8)) : Int × DK :=
  if (discardD D).1 ≠ 0 then discardD D else
  if (appendD (discardD D).2 nmS (encB first recs)).1 ≠ 0 then appendD (discardD D).2 nmS (encB first recs) else
  if (syncD (appendD (discardD D).2 nmS (encB first recs)).2 nmS).1 ≠ 0 then syncD (appendD (discardD D).2 nmS (encB first recs)).2 nmS else
  renameD (syncD (appendD (discardD D).2 nmS (encB first recs)).2 nmS).2 nmS nmL

set_option maxHeartbeats 1000000 in
theorem replace_1 (w : World) (p v : Value) (f c : Int) (hc : (c != 0) = true) (R : World → Prop) (H1 : Hid (Calls Try.prog 59 #[p] w fun e w' => e = .returned (.int .i64 c) ∧ R w')) :
    Calls Try.prog 46 #[p, .int .i64 f, v] w fun e w' => e = .returned (.int .i64 c) ∧ R w' := by
  go_enter Try.func46, Try.ntmps46
  go_wp2_with (go_at_call 59; refine H1.out.mono ?_)
  rintro e w1 ⟨rfl, h1⟩
  go_wp2_with fail
  go_ret
  exact ⟨rfl, h1⟩
set_option maxHeartbeats 1000000 in
theorem replace_2 (w : World) (p v : Value) (f c : Int) (hc : (c != 0) = true) (R1 R3 : World → Prop) (R2 : World → Value → Prop) (H1 : Hid (Calls Try.prog 59 #[p] w fun e w' => e = .returned (.int .i64 0) ∧ R1 w'))
    (H2 : Hid (∀ w1, R1 w1 → Calls Try.prog 60 #[.int .i64 f, v] w1 fun e w' => ∃ u, e = .returned u ∧ R2 w' u)) (H3 : Hid (∀ w2 u, R2 w2 u → Calls Try.prog 28 #[p, .string ⟨#[108, 111, 103, 46, 110, 101, 119]⟩, u] w2 fun e w' => e = .returned (.int .i64 c) ∧ R3 w')) :
    Calls Try.prog 46 #[p, .int .i64 f, v] w fun e w' => e = .returned (.int .i64 c) ∧ R3 w' := by
  go_enter Try.func46, Try.ntmps46
  go_wp2_with (go_at_call 59; refine H1.out.mono ?_)
  rintro e w1 ⟨rfl, h1⟩
  have G2 : Hid (Calls Try.prog 60 #[.int .i64 f, v] w1 fun e w' => ∃ u, e = .returned u ∧ R2 w' u) := H2.out w1 h1
  clear h1
  go_wp2_with (go_at_call 60; refine G2.out.mono ?_)
  rintro e w2 ⟨u, rfl, h2⟩
  have G3 : Hid (Calls Try.prog 28 #[p, .string ⟨#[108, 111, 103, 46, 110, 101, 119]⟩, u] w2 fun e w' => e = .returned (.int .i64 c) ∧ R3 w') := H3.out w2 u h2
  clear h2
  go_wp2_with (go_at_call 28; refine G3.out.mono ?_)
  rintro e w3 ⟨rfl, h3⟩
  go_wp2_with fail
  go_ret
  exact ⟨rfl, h3⟩
set_option maxHeartbeats 1000000 in
theorem replace_3 (w : World) (p v : Value) (f c : Int) (hc : (c != 0) = true) (R1 R3 R4 : World → Prop) (R2 : World → Value → Prop) (H1 : Hid (Calls Try.prog 59 #[p] w fun e w' => e = .returned (.int .i64 0) ∧ R1 w'))
    (H2 : Hid (∀ w1, R1 w1 → Calls Try.prog 60 #[.int .i64 f, v] w1 fun e w' => ∃ u, e = .returned u ∧ R2 w' u)) (H3 : Hid (∀ w2 u, R2 w2 u → Calls Try.prog 28 #[p, .string ⟨#[108, 111, 103, 46, 110, 101, 119]⟩, u] w2 fun e w' => e = .returned (.int .i64 0) ∧ R3 w'))
    (H4 : Hid (∀ w3, R3 w3 → Calls Try.prog 29 #[p, .string ⟨#[108, 111, 103, 46, 110, 101, 119]⟩] w3 fun e w' => e = .returned (.int .i64 c) ∧ R4 w')) :
    Calls Try.prog 46 #[p, .int .i64 f, v] w fun e w' => e = .returned (.int .i64 c) ∧ R4 w' := by
  go_enter Try.func46, Try.ntmps46
  go_wp2_with (go_at_call 59; refine H1.out.mono ?_)
  rintro e w1 ⟨rfl, h1⟩
  have G2 : Hid (Calls Try.prog 60 #[.int .i64 f, v] w1 fun e w' => ∃ u, e = .returned u ∧ R2 w' u) := H2.out w1 h1
  clear h1
  go_wp2_with (go_at_call 60; refine G2.out.mono ?_)
  rintro e w2 ⟨u, rfl, h2⟩
  have G3 : Hid (Calls Try.prog 28 #[p, .string ⟨#[108, 111, 103, 46, 110, 101, 119]⟩, u] w2 fun e w' => e = .returned (.int .i64 0) ∧ R3 w') := H3.out w2 u h2
  clear h2
  go_wp2_with (go_at_call 28; refine G3.out.mono ?_)
  rintro e w3 ⟨rfl, h3⟩
  have G4 : Hid (Calls Try.prog 29 #[p, .string ⟨#[108, 111, 103, 46, 110, 101, 119]⟩] w3 fun e w' => e = .returned (.int .i64 c) ∧ R4 w') := H4.out w3 h3
  clear h3
  go_wp2_with (go_at_call 29; refine G4.out.mono ?_)
  rintro e w4 ⟨rfl, h4⟩
  go_wp2_with fail
  go_ret
  exact ⟨rfl, h4⟩
set_option maxHeartbeats 1000000 in
theorem replace_4 (w : World) (p v : Value) (f c : Int) (R1 R3 R4 R5 : World → Prop) (R2 : World → Value → Prop) (H1 : Hid (Calls Try.prog 59 #[p] w fun e w' => e = .returned (.int .i64 0) ∧ R1 w'))
    (H2 : Hid (∀ w1, R1 w1 → Calls Try.prog 60 #[.int .i64 f, v] w1 fun e w' => ∃ u, e = .returned u ∧ R2 w' u)) (H3 : Hid (∀ w2 u, R2 w2 u → Calls Try.prog 28 #[p, .string ⟨#[108, 111, 103, 46, 110, 101, 119]⟩, u] w2 fun e w' => e = .returned (.int .i64 0) ∧ R3 w'))
    (H4 : Hid (∀ w3, R3 w3 → Calls Try.prog 29 #[p, .string ⟨#[108, 111, 103, 46, 110, 101, 119]⟩] w3 fun e w' => e = .returned (.int .i64 0) ∧ R4 w'))
    (H5 : Hid (∀ w4, R4 w4 → Calls Try.prog 61 #[p, .string ⟨#[108, 111, 103, 46, 110, 101, 119]⟩, .string ⟨#[108, 111, 103]⟩] w4 fun e w' => e = .returned (.int .i64 c) ∧ R5 w')) :
    Calls Try.prog 46 #[p, .int .i64 f, v] w fun e w' => e = .returned (.int .i64 c) ∧ R5 w' := by
  go_enter Try.func46, Try.ntmps46
  go_wp2_with (go_at_call 59; refine H1.out.mono ?_)
  rintro e w1 ⟨rfl, h1⟩
  have G2 : Hid (Calls Try.prog 60 #[.int .i64 f, v] w1 fun e w' => ∃ u, e = .returned u ∧ R2 w' u) := H2.out w1 h1
  clear h1
  go_wp2_with (go_at_call 60; refine G2.out.mono ?_)
  rintro e w2 ⟨u, rfl, h2⟩
  have G3 : Hid (Calls Try.prog 28 #[p, .string ⟨#[108, 111, 103, 46, 110, 101, 119]⟩, u] w2 fun e w' => e = .returned (.int .i64 0) ∧ R3 w') := H3.out w2 u h2
  clear h2
  go_wp2_with (go_at_call 28; refine G3.out.mono ?_)
  rintro e w3 ⟨rfl, h3⟩
  have G4 : Hid (Calls Try.prog 29 #[p, .string ⟨#[108, 111, 103, 46, 110, 101, 119]⟩] w3 fun e w' => e = .returned (.int .i64 0) ∧ R4 w') := H4.out w3 h3
  clear h3
  go_wp2_with (go_at_call 29; refine G4.out.mono ?_)
  rintro e w4 ⟨rfl, h4⟩
  have G5 : Hid (Calls Try.prog 61 #[p, .string ⟨#[108, 111, 103, 46, 110, 101, 119]⟩, .string ⟨#[108, 111, 103]⟩] w4 fun e w' => e = .returned (.int .i64 c) ∧ R5 w') := H5.out w4 h4
  clear h4
  go_wp2_with (go_at_call 61; refine G5.out.mono ?_)
  rintro e w5 ⟨rfl, h5⟩
  go_wp2_with fail
  go_ret
  exact ⟨rfl, h5⟩

theorem replace_any {w : World} {tg : Nat → Tg} {pb : Nat} {D : DK} (h : Dsk w tg pb D) (first : Nat) (hf : first < 9223372036854775808) (v : Value) (l : List RC) (hR : RecOff w tg v l) :
    Calls Try.prog 46 #[.pointer (some ⟨pb, 0, none⟩), .int .i64 first, v] w fun e w' => e = .returned (.int .i64 (replaceD D first (l.map RC.b)).1) ∧ ∃ tg', Dsk w' tg' pb (replaceD D first (l.map RC.b)).2 ∧ Step tg tg' w w' := by
  have hlen : (encB first (l.map RC.b)).length ≤ 16 + 4088 * 1048576 := Nat.le_trans (encB_len first l fun r hr => (hR.2.2 r hr).2.2) (by have := hR.2.1; omega)
  have H1 := discard_any h
  unfold replaceD
  by_cases e1 : (discardD D).1 = 0
  · rw [if_neg (by simpa using e1)]
    rw [e1] at H1
    have H2 : ∀ w1, (Dsk w1 tg pb (discardD D).2 ∧ Step tg tg w w1) → Calls Try.prog 60 #[.int .i64 first, v] w1 fun e w' => ∃ u, e = .returned u ∧ (∃ q c, u = .slice q (encB first (l.map RC.b)).length c ∧ (q = none → c = 0) ∧ LiesOff w' tg q (encB first (l.map RC.b)) ∧ Dsk w' tg pb (discardD D).2 ∧ Step tg tg w w') := by
      rintro w1 ⟨d1, st1⟩
      refine (encode_any (hR.step st1) first hf).mono ?_
      rintro e w' ⟨u, rfl, o, b⟩
      obtain ⟨q, c, rfl, hL, hz, hlt⟩ := o.shape
      refine ⟨_, rfl, q, c, rfl, hz, ?_, d1.keepB b, st1.trans (Step.of_below _ b)⟩
      rcases hL with h0 | ⟨g, o', rfl, hr⟩
      · exact .inl h0
      · have h1 := hlt g rfl
        refine .inr ⟨g, o', rfl, hr, h1.2, ?_⟩
        obtain ⟨_, _, _, dd⟩ := d1
        exact new_no dd.lt h1.1
    have H3 : ∀ (w2 : World) (u : Value), (∃ q c, u = .slice q (encB first (l.map RC.b)).length c ∧ (q = none → c = 0) ∧ LiesOff w2 tg q (encB first (l.map RC.b)) ∧ Dsk w2 tg pb (discardD D).2 ∧ Step tg tg w w2) → Calls Try.prog 28 #[.pointer (some ⟨pb, 0, none⟩), .string ⟨#[108, 111, 103, 46, 110, 101, 119]⟩, u] w2 fun e w' => e = .returned (.int .i64 (appendD (discardD D).2 nmS (encB first (l.map RC.b))).1) ∧ ∃ tg', Dsk w' tg' pb (appendD (discardD D).2 nmS (encB first (l.map RC.b))).2 ∧ Step tg tg' w w' := by
      rintro w2 u ⟨q, c, rfl, hz, hL, d2, st2⟩
      refine (append_any d2 ⟨⟨nmS⟩⟩ (by decide) q _ c (encB first (l.map RC.b)) (by omega) rfl hz hL).mono ?_
      rintro e w' ⟨rfl, tg', d, st⟩
      exact ⟨rfl, tg', d, st2.trans st⟩
    generalize appendD (discardD D).2 nmS (encB first (l.map RC.b)) = A at *
    by_cases e2 : A.1 = 0
    · rw [if_neg (by simpa using e2)]
      rw [e2] at H3
      have H4 : ∀ w3, (∃ tg', Dsk w3 tg' pb A.2 ∧ Step tg tg' w w3) → Calls Try.prog 29 #[.pointer (some ⟨pb, 0, none⟩), .string ⟨#[108, 111, 103, 46, 110, 101, 119]⟩] w3 fun e w' => e = .returned (.int .i64 (syncD A.2 nmS).1) ∧ ∃ tg', Dsk w' tg' pb (syncD A.2 nmS).2 ∧ Step tg tg' w w' := by
        rintro w3 ⟨tg', d3, st3⟩
        refine (sync_any d3 ⟨⟨nmS⟩⟩ (by decide)).mono ?_
        rintro e w' ⟨rfl, d, st⟩
        exact ⟨rfl, tg', d, st3.trans st⟩
      generalize syncD A.2 nmS = S at *
      by_cases e3 : S.1 = 0
      · rw [if_neg (by simpa using e3)]
        rw [e3] at H4
        refine replace_4 w _ v _ _ _ _ _ _ _ H1 H2 H3 H4 ?_
        rintro w4 ⟨tg', d4, st4⟩
        refine (rename_any d4 ⟨⟨nmS⟩⟩ ⟨⟨nmL⟩⟩ (by decide) (by decide)).mono ?_
        rintro e w' ⟨rfl, tg2, d, st⟩
        exact ⟨rfl, tg2, d, st4.trans st⟩
      · rw [if_pos (by simpa using e3)]
        exact replace_3 w _ v _ _ (by simpa using e3) _ _ _ _ H1 H2 H3 H4
    · rw [if_pos (by simpa using e2)]
      exact replace_2 w _ v _ _ (by simpa using e2) _ _ _ H1 H2 H3
  · rw [if_pos (by simpa using e1)]
    refine (replace_1 w _ v _ _ (by simpa using e1) _ H1).mono ?_
    rintro e w' ⟨rfl, d, st⟩
    exact ⟨rfl, tg, d, st⟩
end Go.Proofs.Ytplcpjngpkghmaa

namespace Go.Proofs.Ytplcpjngpkghmaa
open Go.RowKit Go.Maps

/-- what is in the frame that the bytes begin with, and how many bytes it has -/
def ojD (l : List UInt8) : List UInt8 × Nat := match Crc.opened (l.take 4088) with
  | none => ([], 0)
  | some (x, y) => (x, (l.take 4088).length - y.length)
theorem opened_len {l x y : List UInt8} (h : Crc.opened l = some (x, y)) : y.length + 8 + x.length = l.length := by
  unfold Crc.opened at h
  split at h
  · cases h
  · split at h
    · cases h
    · split at h
      · simp only [Option.some.injEq, Prod.mk.injEq] at h
        obtain ⟨rfl, rfl⟩ := h
        simp only [List.length_take, List.length_drop]
        omega
      · cases h
set_option maxHeartbeats 1000000 in
set_option maxRecDepth 100000 in
theorem open70_at (l m : List UInt8) (a : Option Addr) (c n k : Nat) (w : World) (hm : Hid (l.take 4088 = m)) (hk : Hid (m.length = k)) (hmin : min (n : Int) 4088 = (k : Int)) (hkc : k ≤ c) (hc : c ≤ 9223372036854775807) (hz : Hid (a = none → c = 0)) (ha : Hid (Lies w a m)) (hn : n ≤ 140737488355328) :
    Calls Try.prog 70 #[.slice a n c] w fun e w' => ∃ q c', e = .returned (.tuple #[.slice q (ojD l).1.length c', .int .i64 (ojD l).2]) ∧ Own w' w.heap.size (.slice q (ojD l).1.length c') (ojD l).1 ∧ Below w.heap.size w w' := by
  have H77 : Hid (Calls Try.prog 77 #[.slice a k c] w fun e w' => openAns w w' m e ∧ Below w.heap.size w w') := by
    have h1 := open_any m a c w ha.out hz.out (by rw [hk.out]; exact hkc) (by rw [hk.out]; omega)
    rw [hk.out] at h1
    exact h1
  have HO : Hid (ojD l = match Crc.opened m with | none => ([], 0) | some (x, y) => (x, k - y.length)) := by
    refine (?_ : _ = _)
    unfold ojD
    rw [hm.out]
    cases Crc.opened m with
    | none => rfl
    | some p => rw [← hk.out]
  cases a with
  | none =>
    have hc0 := hz.out rfl
    subst hc0
    have hk0 : k = 0 := by omega
    subst hk0
    go_enter Try.func70, Try.ntmps70
    go_wp2_with (go_at_call 77; refine H77.out.mono ?_)
    first | rintro e w1 h1 b1 | rintro e w1 ⟨h1, b1⟩
    unfold openAns at h1
    have hm0 : m = [] := List.eq_nil_of_length_eq_zero hk.out
    have e0 : Crc.opened m = none := by rw [hm0]; rfl
    rw [e0] at h1 HO
    subst h1
    go_wp2_with fail
    go_ret2
    rw [HO.out]
    exact ⟨_, _, rfl, Own.nil _ _, b1⟩
  | some ad =>
    go_enter Try.func70, Try.ntmps70
    go_wp2_with (go_at_call 77; refine H77.out.mono ?_)
    first | rintro e w1 h1 b1 | rintro e w1 ⟨h1, b1⟩
    unfold openAns at h1
    cases hop : Crc.opened m with
    | none =>
      rw [hop] at h1 HO
      subst h1
      go_wp2_with fail
      go_ret2
      rw [HO.out]
      exact ⟨_, _, rfl, Own.nil _ _, b1⟩
    | some p =>
      obtain ⟨x, y⟩ := p
      rw [hop] at h1 HO
      obtain ⟨q, c1, q2, c2, rfl, o1, o2, -⟩ := h1
      have hlen := opened_len hop
      have hyk : y.length ≤ k := by have := hk.out; omega
      have O1 : Hid (Own w1 w.heap.size (.slice q x.length c1) x) := o1
      have B1 : Hid (Below w.heap.size w w1) := b1
      clear o1 o2 b1 hlen hop
      go_wp2_with fail
      go_ret2
      rw [HO.out]
      exact ⟨q, c1, by rw [Int.ofNat_sub hyk]; rfl, O1.out, B1.out⟩
theorem open70_any (l : List UInt8) (a : Option Addr) (c : Nat) (w : World) (ha : Lies w a l) (hz : a = none → c = 0) (hlc : l.length ≤ c) (hc : c ≤ 9223372036854775807) (hl : l.length ≤ 140737488355328) :
    Calls Try.prog 70 #[.slice a l.length c] w fun e w' => ∃ q c', e = .returned (.tuple #[.slice q (ojD l).1.length c', .int .i64 (ojD l).2]) ∧ Own w' w.heap.size (.slice q (ojD l).1.length c') (ojD l).1 ∧ Below w.heap.size w w' :=
  open70_at l (l.take 4088) a c l.length (l.take 4088).length w rfl rfl (by rw [List.length_take]; omega) (by rw [List.length_take]; omega) hc hz (by
    rcases ha with rfl | ⟨g, o, e, h⟩
    · exact .inl (by simp)
    · refine .inr ⟨g, o, e, fun k x hx => h k x ?_⟩
      rw [List.getElem?_take] at hx
      split at hx
      · exact hx
      · cases hx) hl

set_option maxHeartbeats 1000000 in
theorem decode_nil (w : World) : Calls Try.prog 62 #[.slice none 0 0] w fun e w' => e = .returned (.tuple #[.int .i64 0, .slice none 0 0, .int .i64 0]) ∧ Below w.heap.size w w' := by
  have H : Hid (Calls Try.prog 70 #[.slice none 0 0] w fun e w' => ∃ q c', e = .returned (.tuple #[.slice q 0 c', .int .i64 0]) ∧ Below w.heap.size w w') := by
    refine (open70_any [] none 0 w (.inl rfl) (fun _ => rfl) (Nat.le_refl _) (by omega) (Nat.zero_le _)).mono ?_
    rintro e w' ⟨q, c', rfl, _, b⟩
    exact ⟨q, c', rfl, b⟩
  go_enter Try.func62, Try.ntmps62
  go_wp2_with (go_at_call 70; refine H.out.mono ?_)
  rintro e w1 ⟨q, c', rfl, b1⟩
  go_wp2_with fail
  go_ret3
  exact ⟨rfl, b1⟩
end Go.Proofs.Ytplcpjngpkghmaa

namespace Go.Proofs.Ytplcpjngpkghmaa
open Go.RowKit Go.Maps
variable {P : Nat → Obj → Prop}

theorem ownsKeep {w w1 : World} {B t s n : Nat} {v : Value} {xs : List Value} (h : w.ownsRow B t s v n xs) (b : ∀ g, v.ownBlock = some g → w1.heap[g]? = w.heap[g]?) : w1.ownsRow B t s v n xs := by
  refine ⟨h.1, ?_⟩
  rcases h.2 with hn | ⟨g, cap, cur, rfl, hb, hgg, rest⟩
  · exact .inl hn
  · exact .inr ⟨g, cap, cur, rfl, hb, (b g rfl).trans hgg, rest⟩
structure RcAt (w : World) (lt : Nat → Tg) (r : RC) : Prop where
  row : r.b = [] ∨ ∃ g o, r.a = some ⟨g, o, none⟩ ∧ Row w g o r.b ∧ lt g = .rw []
  hz : r.a = none → r.c = 0
  hl : r.b.length ≤ 4080
theorem RcAt.keep {w w1 : World} {lt lt1 : Nat → Tg} {r : RC} (h : RcAt w lt r) (e : ∀ k, lt k = .rw [] → w1.heap[k]? = w.heap[k]?) (et : ∀ k, lt k = .rw [] → lt1 k = .rw []) : RcAt w1 lt1 r := by
  refine ⟨?_, h.hz, h.hl⟩
  rcases h.row with h1 | ⟨g, o, h1, h2, h3⟩
  · exact .inl h1
  · exact .inr ⟨g, o, h1, h2.keepAt (e g h3), et g h3⟩
structure LgAt (w : World) (lt : Nat → Tg) (lb : Nat) (pt : Option Addr) (first : Nat) (v : Value) (l : List RC) : Prop where
  cell : w.heap[lb]? = some (.cells #[.pointer pt, .int .i64 first, v] 77 (0, 0))
  tp : lt lb = .dk
  own : w.ownsRow 0 31 1 v l.length (l.map RC.v)
  tm : ∀ g, v.ownBlock = some g → lt g = .mp
  fl : ∀ r ∈ l, RcAt w lt r
  len : l.length ≤ 1048576
  bd : first + l.length < 4611686018427387904
  lt_ : ∀ k, lt k ≠ .no → k < w.heap.size
theorem LgAt.keep {w w1 : World} {lt : Nat → Tg} {lb first : Nat} {pt : Option Addr} {v : Value} {l : List RC} (h : LgAt w lt lb pt first v l) (e : ∀ k, lt k ≠ .no → w1.heap[k]? = w.heap[k]?) (hs : w.heap.size ≤ w1.heap.size) : LgAt w1 lt lb pt first v l :=
  ⟨(e _ (by rw [h.tp]; exact nofun)).trans h.cell, h.tp, ownsKeep h.own fun g hg => e g (by rw [h.tm g hg]; exact nofun), h.tm, fun f hf => (h.fl f hf).keep (fun k hk => e k (by rw [hk]; exact nofun)) fun _ hk => hk, h.len, h.bd, fun k hk => Nat.lt_of_lt_of_le (h.lt_ k hk) hs⟩
theorem no_of {t : Tg} (h : ¬ t ≠ .no) : t = .no := by
  by_cases e : t = .no
  · exact e
  · exact absurd e h
theorem Dsk.lt {w : World} {tg : Nat → Tg} {pb : Nat} {D : DK} (h : Dsk w tg pb D) {k : Nat} (hk : tg k ≠ .no) : k < w.heap.size := by obtain ⟨_, _, _, h⟩ := h; exact h.lt k hk
def NoP : Nat → Obj → Prop := fun _ _ => False
theorem step_blk {tg tg' : Nat → Tg} {w w' : World} {g : Nat} {o : Obj} (st : Step tg tg' w w') (h : w.heap[g]? = some o) (hno : tg g = .no) : w'.heap[g]? = some o ∧ tg' g = .no := by
  have hlt := (Array.getElem?_eq_some_iff.1 h).1
  refine ⟨(st.1.block g hlt fun e => e hno).trans h, no_of fun e => ?_⟩
  rcases st.2 g e with h1 | h1
  · exact h1 hno
  · omega
/-- a disk and a log of it; P: blocks that are neither's, as they are -/
structure LJ (P : Nat → Obj → Prop) (w0 w : World) (pb lb : Nat) (D : DK) (pt : Option Addr) (first : Nat) (l : List RC) (tg lt : Nat → Tg) : Prop where
  d : Dsk w tg pb D
  g : ∃ v, LgAt w lt lb pt first v l
  ap : ∀ k, tg k ≠ .no → lt k = .no
  t1 : ∀ k, tg k ≠ .no → w0.heap.size ≤ k
  t2 : ∀ k, lt k ≠ .no → w0.heap.size ≤ k
  b : Below w0.heap.size w0 w
  pr : ∀ g o, P g o → w.heap[g]? = some o ∧ tg g = .no ∧ lt g = .no
theorem LJ.left {w0 w w' : World} {pb lb first : Nat} {D D' : DK} {pt : Option Addr} {l : List RC} {tg lt tg' : Nat → Tg} (h : LJ P w0 w pb lb D pt first l tg lt) (d : Dsk w' tg' pb D') (st : Step tg tg' w w') : LJ P w0 w' pb lb D' pt first l tg' lt := by
  obtain ⟨v, hg⟩ := h.g
  refine ⟨d, ⟨v, hg.keep (fun k hk => st.1.block k (hg.lt_ k hk) fun e => hk (h.ap k e)) st.1.size⟩, fun k hk => ?_, fun k hk => ?_, h.t2, ?_, fun g o hp => ⟨(step_blk st (h.pr g o hp).1 (h.pr g o hp).2.1).1, (step_blk st (h.pr g o hp).1 (h.pr g o hp).2.1).2, (h.pr g o hp).2.2⟩⟩
  · rcases st.2 k hk with h1 | h1
    · exact h.ap k h1
    · refine no_of fun e => ?_
      have := hg.lt_ k e
      omega
  · rcases st.2 k hk with h1 | h1
    · exact h.t1 k h1
    · exact Nat.le_trans h.b.size h1
  · exact h.b.trans (st.below h.b.size h.t1).1
theorem LJ.keep {w0 w w' : World} {pb lb first : Nat} {D : DK} {pt : Option Addr} {l : List RC} {tg lt : Nat → Tg} (h : LJ P w0 w pb lb D pt first l tg lt) (b : Below w.heap.size w w') : LJ P w0 w' pb lb D pt first l tg lt := by
  obtain ⟨v, hg⟩ := h.g
  exact ⟨h.d.keepB b, ⟨v, hg.keep (fun k hk => b.block k (hg.lt_ k hk)) b.size⟩, h.ap, h.t1, h.t2, h.b.trans (b.mono h.b.size), fun g o hp => ⟨at_below b (Nat.le_refl _) (h.pr g o hp).1, (h.pr g o hp).2⟩⟩
theorem LJ.right {w0 w w' : World} {pb lb first first' : Nat} {D : DK} {pt pt' : Option Addr} {l l' : List RC} {v' : Value} {tg lt lt' : Nat → Tg} (h : LJ P w0 w pb lb D pt first l tg lt) (d : LgAt w' lt' lb pt' first' v' l') (st : Step lt lt' w w') : LJ P w0 w' pb lb D pt' first' l' tg lt' := by
  refine ⟨h.d.keep (fun k hk => st.1.block k (h.d.lt hk) fun e => e (h.ap k hk)) st.1.size, ⟨v', d⟩, fun k hk => ?_, h.t1, fun k hk => ?_, ?_, fun g o hp => ⟨(step_blk st (h.pr g o hp).1 (h.pr g o hp).2.2).1, (h.pr g o hp).2.1, (step_blk st (h.pr g o hp).1 (h.pr g o hp).2.2).2⟩⟩
  · refine no_of fun e => ?_
    rcases st.2 k e with h1 | h1
    · exact h1 (h.ap k hk)
    · have := h.d.lt hk
      omega
  · rcases st.2 k hk with h1 | h1
    · exact h.t2 k h1
    · exact Nat.le_trans h.b.size h1
  · exact h.b.trans (st.below h.b.size h.t2).1

set_option maxHeartbeats 1000000 in
theorem decode_zero (a : Option Addr) (c : Nat) (w : World) (hz : a = none → c = 0) (hc : c ≤ 9223372036854775807) : Calls Try.prog 62 #[.slice a 0 c] w fun e w' => e = .returned (.tuple #[.int .i64 0, .slice none 0 0, .int .i64 0]) ∧ Below w.heap.size w w' := by
  have H : Hid (Calls Try.prog 70 #[.slice a 0 c] w fun e w' => ∃ q c', e = .returned (.tuple #[.slice q 0 c', .int .i64 0]) ∧ Below w.heap.size w w') := by
    refine (open70_any [] a c w (.inl rfl) hz (Nat.zero_le _) hc (Nat.zero_le _)).mono ?_
    rintro e w' ⟨q, c', rfl, _, b⟩
    exact ⟨q, c', rfl, b⟩
  go_enter Try.func62, Try.ntmps62
  go_wp2_with (go_at_call 70; refine H.out.mono ?_)
  rintro e w1 ⟨q, c', rfl, b1⟩
  go_wp2_with fail
  go_ret3
  exact ⟨rfl, b1⟩
theorem own_cap {w : World} {B : Nat} {q : Option Addr} {k c : Nat} {l : List UInt8} (h : Own w B (.slice q k c) l) : l.length ≤ c ∧ c ≤ 9223372036854775807 := by
  rcases h.2 with ⟨e, h0⟩ | ⟨g, cap, cur, e, _, _, h1, h2, _⟩
  · cases e; rw [h0]; exact ⟨Nat.le_refl _, by omega⟩
  · cases e; unfold maxLen at h2; exact ⟨h1, by omega⟩
set_option maxHeartbeats 1000000 in
theorem load_empty {w0 w : World} {pb lb : Nat} {D : DK} {tg lt : Nat → Tg} (h : Hid (LJ P w0 w pb lb D (some ⟨pb, 0, none⟩) 0 [] tg lt)) (hr : Hid ((readD D nmL).2 = [])) :
    Calls Try.prog 48 #[.pointer (some ⟨lb, 0, none⟩)] w fun e w' => e = .returned (.int .i64 (replaceD D 0 []).1) ∧ ∃ tg', LJ P w0 w' pb lb (replaceD D 0 []).2 (some ⟨pb, 0, none⟩) 0 [] tg' lt := by
  obtain ⟨v, hg⟩ := h.out.g
  obtain ⟨e0, e1, e2⟩ := k3 hg.cell
  have H30 : Hid (Calls Try.prog 30 #[.pointer (some ⟨pb, 0, none⟩), .string ⟨#[108, 111, 103]⟩] w fun e w' => ∃ q c, e = .returned (.tuple #[.slice q 0 c, .int .i64 (readD D nmL).1]) ∧ (q = none → c = 0) ∧ c ≤ 9223372036854775807 ∧ Below w.heap.size w w') := by
    refine (read_any h.out.d ⟨⟨nmL⟩⟩ (by decide)).mono ?_
    rintro e w' ⟨u, rfl, o, b⟩
    obtain ⟨q, c, rfl, _, hz, _⟩ := o.shape
    have hl : (readD D nmL).2.length = 0 := by rw [hr.out]; rfl
    have hcap := (own_cap o).2
    refine ⟨q, c, ?_, hz, hcap, b⟩
    rw [← hl]
  clear hg
  go_enter Try.func48, Try.ntmps48
  go_wp2_with (go_at_call 30; refine H30.out.mono ?_)
  rintro e w1 ⟨q1, c1, rfl, hz1, hc1, b1⟩
  have H1 : Hid (LJ P w0 w1 pb lb D (some ⟨pb, 0, none⟩) 0 [] tg lt) := h.out.keep b1
  have H62 : Hid (Calls Try.prog 62 #[.slice q1 0 c1] w1 fun e w' => e = .returned (.tuple #[.int .i64 0, .slice none 0 0, .int .i64 0]) ∧ Below w1.heap.size w1 w') := decode_zero q1 c1 w1 hz1 hc1
  clear hz1 hc1 b1 H30 e0 e1 e2
  go_wp2_with (go_at_call 62; refine H62.out.mono ?_)
  rintro e w2 ⟨rfl, b2⟩
  have H2 : Hid (LJ P w0 w2 pb lb D (some ⟨pb, 0, none⟩) 0 [] tg lt) := H1.out.keep b2
  obtain ⟨v2, hg2⟩ := H2.out.g
  obtain ⟨e0, e1, e2⟩ := k3 hg2.cell
  have H46 : Hid (Calls Try.prog 46 #[.pointer (some ⟨pb, 0, none⟩), .int .i64 0, .slice none 0 0] w2 fun e w' => e = .returned (.int .i64 (replaceD D 0 []).1) ∧ ∃ tg', LJ P w0 w' pb lb (replaceD D 0 []).2 (some ⟨pb, 0, none⟩) 0 [] tg' lt) := by
    refine (replace_any H2.out.d 0 (by omega) (.slice none 0 0) [] ⟨.inl ⟨none, 0, rfl, rfl⟩, Nat.zero_le _, nofun⟩).mono ?_
    rintro e w' ⟨rfl, tg', d, st⟩
    exact ⟨rfl, tg', H2.out.left d st⟩
  clear hg2 b2 H62
  go_wp2_with (go_at_call 46; refine H46.out.mono ?_)
  rintro e w3 ⟨rfl, h3⟩
  go_wp2_with fail
  go_ret
  exact ⟨rfl, h3⟩

set_option maxHeartbeats 1000000 in
theorem open_new {w0 w : World} {pb : Nat} {D : DK} {tg : Nat → Tg} (h : Hid (Dsk w tg pb D)) (ht : Hid (∀ k, tg k ≠ .no → w0.heap.size ≤ k)) (hb : Hid (Below w0.heap.size w0 w)) (hd : Hid (D.down = false)) (hpr : Hid (∀ g o, P g o → w.heap[g]? = some o ∧ tg g = .no)) (hr : Hid ((readD D nmL).2 = [])) (ho : Hid ((replaceD D 0 []).1 = 0)) :
    Calls Try.prog 27 #[.pointer (some ⟨pb, 0, none⟩)] w fun e w' => e = .returned (.tuple #[.pointer (some ⟨w.heap.size, 0, none⟩), .int .i64 0]) ∧ ∃ tg' lt, LJ P w0 w' pb w.heap.size (replaceD D 0 []).2 (some ⟨pb, 0, none⟩) 0 [] tg' lt := by
  have H17 : Hid (Calls Try.prog 17 #[.pointer (some ⟨pb, 0, none⟩)] w fun e w' => e = .returned (.bool false) ∧ w' = w) := by
    obtain ⟨_, _, _, dd⟩ := h.out
    have hc := dd.cell
    rw [hd.out] at hc
    exact down_at w pb _ _ _ false hc
  have HJ : Hid (LJ P w0 (w.alloc (.cells #[.pointer (some ⟨pb, 0, none⟩), .int .i64 0, .slice none 0 0] 77)) pb w.heap.size D (some ⟨pb, 0, none⟩) 0 [] tg (tgN w.heap.size)) := by
    have b : Below w.heap.size w (w.alloc (.cells #[.pointer (some ⟨pb, 0, none⟩), .int .i64 0, .slice none 0 0] 77)) := (Below.refl _ w).alloc (Nat.le_refl _) _
    refine ⟨h.out.keepB b, ⟨.slice none 0 0, new0, by simp [tgN], World.ownsRow_nil _ _ _ _, nofun, nofun, Nat.zero_le _, by simp, fun k hk => ?_⟩, fun k hk => no_of fun e => ?_, ht.out, fun k hk => ?_, hb.out.trans (b.mono hb.out.size), fun g o hp => ⟨at_below b (Nat.le_refl _) (hpr.out g o hp).1, (hpr.out g o hp).2, no_of fun e => ?_⟩⟩
    · rw [tgN_new hk]; simp
    · have := h.out.lt hk
      rw [tgN_new e] at this
      omega
    · rw [tgN_new hk]; exact hb.out.size
    · have := (Array.getElem?_eq_some_iff.1 (hpr.out g o hp).1).1
      rw [tgN_new e] at this
      exact Nat.lt_irrefl _ this
  have H48 : Hid (Calls Try.prog 48 #[.pointer (some ⟨w.heap.size, 0, none⟩)] (w.alloc (.cells #[.pointer (some ⟨pb, 0, none⟩), .int .i64 0, .slice none 0 0] 77)) fun e w' => e = .returned (.int .i64 0) ∧ ∃ tg', LJ P w0 w' pb w.heap.size (replaceD D 0 []).2 (some ⟨pb, 0, none⟩) 0 [] tg' (tgN w.heap.size)) := by
    have := load_empty HJ.out hr.out
    rw [ho.out] at this
    exact this
  go_enter Try.func27, Try.ntmps27
  go_wp2_with (go_at_call 17; refine H17.out.mono ?_)
  rintro e w1 ⟨rfl, rfl⟩
  go_wp2_with (go_at_call 48; refine H48.out.mono ?_)
  rintro e w2 ⟨rfl, tg2, h2⟩
  have H2 : Hid (LJ P w0 w2 pb w1.heap.size (replaceD D 0 []).2 (some ⟨pb, 0, none⟩) 0 [] tg2 (tgN w1.heap.size)) := h2
  clear h2 H48
  go_wp2_with (go_at_call 44; refine (opr_ok w2 _).mono ?_)
  rintro e w3 ⟨rfl, rfl⟩
  go_wp2_with fail
  go_ret2
  exact ⟨rfl, tg2, _, H2.out⟩
end Go.Proofs.Ytplcpjngpkghmaa

namespace Go.Proofs.Ytplcpjngpkghmaa
open Go.RowKit Go.Maps
variable {P : Nat → Obj → Prop}

set_option maxHeartbeats 400000 in
theorem lap_over (w : World) (p u : Value) (H : Hid (Calls Try.prog 42 #[p] w fun e w' => e = .returned (.bool true) ∧ w' = w)) :
    Calls Try.prog 20 #[p, u] w fun e w' => e = .returned (.tuple #[.int .i64 0, .int .i64 11]) ∧ w' = w := by
  go_enter Try.func20, Try.ntmps20
  go_wp2_with (go_at_call 42; refine H.out.mono ?_)
  rintro e w1 ⟨rfl, rfl⟩
  go_wp2_with fail
  go_ret2
  exact ⟨rfl, rfl⟩
set_option maxHeartbeats 400000 in
theorem lap_long (w : World) (p : Value) (q : Option Addr) (n c : Nat) (hn : 4080 < (n : Int)) (H : Hid (Calls Try.prog 42 #[p] w fun e w' => e = .returned (.bool false) ∧ w' = w)) :
    Calls Try.prog 20 #[p, .slice q n c] w fun e w' => e = .returned (.tuple #[.int .i64 0, .int .i64 1]) ∧ w' = w := by
  go_enter Try.func20, Try.ntmps20
  go_wp2_with (go_at_call 42; refine H.out.mono ?_)
  rintro e w1 ⟨rfl, rfl⟩
  go_wp2_with fail
  go_ret2
  exact ⟨rfl, rfl⟩
theorem info31 : (Try.prog.info? 31).map (fun i => (i.zero, i.size, i.bytes)) = some (some (.slice none 0 0), 1, 24) := by kernel_rfl
def tgL (lt : Nat → Tg) (v u : Value) : Nat → Tg := fun k => if v.ownBlock = some k then .mp else if u.ownBlock = some k then .rw [] else lt k
/-- behind the append of a record -/
theorem apW {w w6 w7 : World} {lt : Nat → Tg} {lb first : Nat} {pt : Option Addr} {l : List RC} {v : Value} {b : List UInt8} {q6 : Option Addr} {c6 g cap : Nat} (h : LgAt w lt lb pt first v l) (hl : l.length < 1048576) (hf : first + l.length + 1 < 4611686018427387904) (hb : b.length ≤ 4080)
    (o6 : Own w6 w.heap.size (.slice q6 b.length c6) b) (b6 : Below w.heap.size w w6) (own : w7.ownsRow 0 31 1 (.slice (some ⟨g, 0, none⟩) (l.length + 1) cap) (l.length + 1) (l.map RC.v ++ [.slice q6 b.length c6])) (gr : (w6.alloc (.cells #[.slice q6 b.length c6] 31)).grownBy w7 v.ownBlock) (hat : v.ownBlock = some g ∨ g = w6.heap.size + 1) :
    w7.heap[lb]? = some (.cells #[.pointer pt, .int .i64 first, v] 77 (0, 0)) ∧ ∃ lt', LgAt (w7.setCell ⟨lb, 2, none⟩ (.slice (some ⟨g, 0, none⟩) (l.length + 1) cap)) lt' lb pt first (.slice (some ⟨g, 0, none⟩) (l.length + 1) cap) (l ++ [⟨b, q6, c6⟩]) ∧ Step lt lt' w (w7.setCell ⟨lb, 2, none⟩ (.slice (some ⟨g, 0, none⟩) (l.length + 1) cap)) := by
  have hsz : (w6.alloc (.cells #[.slice q6 b.length c6] 31)).heap.size = w6.heap.size + 1 := by simp
  have hw6 := b6.size
  have bb : Below w.heap.size w (w6.alloc (.cells #[.slice q6 b.length c6] 31)) := b6.alloc hw6 _
  have hlb : lb < w.heap.size := h.lt_ lb (by rw [h.tp]; exact nofun)
  have hlt := World.ownsRow.lt h.own
  have hlt6 := World.ownsRow.lt o6
  have hne : v.ownBlock ≠ some lb := fun e => by have := h.tm lb e; rw [h.tp] at this; cases this
  have hgl : g ≠ lb := by
    rcases hat with h1 | h1
    · exact fun e => hne (by rw [h1, e])
    · omega
  have hgw7 : g < w7.heap.size := (World.ownsRow.lt own g rfl).2
  have hold : ∀ k, k < w.heap.size → v.ownBlock ≠ some k → w7.heap[k]? = w.heap[k]? := fun k hk hn => (gr.block k (by omega) (fun e => hn e.symm)).trans (bb.block k hk)
  have hp7 : w7.heap[lb]? = some (.cells #[.pointer pt, .int .i64 first, v] 77 (0, 0)) := (hold lb hlb hne).trans h.cell
  have hset : ∀ k, k ≠ lb → (w7.setCell ⟨lb, 2, none⟩ (.slice (some ⟨g, 0, none⟩) (l.length + 1) cap)).heap[k]? = w7.heap[k]? := fun k hk => Below.heap_setCell _ _ _ _ hk
  have hszs : (w7.setCell ⟨lb, 2, none⟩ (.slice (some ⟨g, 0, none⟩) (l.length + 1) cap)).heap.size = w7.heap.size := by simp [World.setCell]
  have hw7 : w6.heap.size + 1 ≤ w7.heap.size := by have := gr.size; omega
  have hg6 : ∀ k, (Value.slice q6 b.length c6).ownBlock = some k → k ≠ g := fun k hk e => by
    have h6 := hlt6 k hk
    rcases hat with h1 | h1
    · have := (hlt g h1).2; omega
    · omega
  have hsame : ∀ k, lt k ≠ .no → tgL lt (.slice (some ⟨g, 0, none⟩) (l.length + 1) cap) (.slice q6 b.length c6) k = lt k := by
    intro k hk
    have hkl := h.lt_ k hk
    unfold tgL
    split
    · rename_i e
      have e2 : g = k := by simpa [Value.ownBlock] using e
      subst e2
      rcases hat with h1 | h1
      · exact (h.tm g h1).symm
      · omega
    · split
      · rename_i e
        have := (hlt6 k e).1
        omega
      · rfl
  refine ⟨hp7, tgL lt (.slice (some ⟨g, 0, none⟩) (l.length + 1) cap) (.slice q6 b.length c6), ⟨setB hp7 _, ?_, ?_, ?_, ?_, ?_, ?_, ?_⟩, ?_, ?_⟩
  · rw [hsame lb (by rw [h.tp]; exact nofun)]; exact h.tp
  · rw [List.length_append, List.map_append]
    exact ownsKeep own fun g' hg' => hset g' (by have : g = g' := by simpa [Value.ownBlock] using hg'
                                                 rw [← this]; exact hgl)
  · intro g' hg'
    unfold tgL
    rw [if_pos hg']
  · intro r hr
    rcases List.mem_append.1 hr with hr | hr
    · refine (h.fl r hr).keep (fun k hk => ?_) (fun k hk => (hsame k (by rw [hk]; exact nofun)).trans hk)
      have hk1 : v.ownBlock ≠ some k := fun e => by have := h.tm k e; rw [hk] at this; cases this
      have hk2 : k ≠ lb := fun e => by rw [e, h.tp] at hk; cases hk
      exact (hset k hk2).trans (hold k (h.lt_ k (by rw [hk]; exact nofun)) hk1)
    · simp only [List.mem_singleton] at hr
      subst hr
      obtain ⟨hL, hz, _⟩ := own_parts o6
      refine ⟨?_, hz, hb⟩
      rcases hL with h0 | ⟨g', o', rfl, hrow⟩
      · exact .inl h0
      · have h6 := hlt6 g' rfl
        refine .inr ⟨g', o', rfl, hrow.keepAt ?_, ?_⟩
        · rw [hset g' (by omega), gr.block g' (by omega) (fun e => by have := (hlt g' e.symm).2; omega)]
          exact at_below ((Below.refl _ w6).alloc (Nat.le_refl _) _) (Nat.le_refl _) (Array.getElem?_eq_getElem h6.2) |>.trans (Array.getElem?_eq_getElem h6.2).symm
        · unfold tgL
          rw [if_neg (by intro e; exact hg6 g' rfl (by simpa [Value.ownBlock] using e.symm))]
          exact if_pos rfl
  · rw [List.length_append]; simp; omega
  · rw [List.length_append]; simp; omega
  · intro k hk
    rw [hszs]
    unfold tgL at hk
    split at hk
    · rename_i e
      have e2 : g = k := by simpa [Value.ownBlock] using e
      omega
    · split at hk
      · rename_i e
        have := (hlt6 k e).2
        omega
      · have := h.lt_ k hk; omega
  · refine ⟨?_, ?_, ?_, by rw [hszs]; omega, fun k hk hn => ?_⟩
    · exact (gr.os).trans bb.os
    · exact (gr.tape).trans bb.tape
    · exact (gr.output).trans bb.output
    · have hk2 : k ≠ lb := fun e => hn (by rw [e, h.tp]; exact nofun)
      exact (hset k hk2).trans (hold k hk fun e => hn (by rw [h.tm k e]; exact nofun))
  · intro k hk
    unfold tgL at hk
    split at hk
    · rename_i e
      have e2 : g = k := by simpa [Value.ownBlock] using e
      subst e2
      rcases hat with h1 | h1
      · left; rw [h.tm g h1]; exact nofun
      · right; omega
    · split at hk
      · rename_i e
        exact .inr (hlt6 k e).1
      · exact .inl hk
set_option maxHeartbeats 2000000 in
theorem lap_ok {w0 w : World} {pb lb first : Nat} {D : DK} {l : List RC} {tg lt : Nat → Tg} (h : Hid (LJ P w0 w pb lb D (some ⟨pb, 0, none⟩) first l tg lt)) (b : List UInt8) (q : Option Addr) (n c : Nat) (hn : n ≤ 4080) (hb : Hid (b.length = n)) (hz : Hid (q = none → c = 0)) (hL : Hid (LiesOff w tg q b)) (hL2 : Hid (LiesOff w lt q b)) (hl : l.length < 1048576) (hf : first + l.length + 1 < 4611686018427387904) (D' : DK) (hA : Hid (appendD D nmL (Crc.frame b) = (0, D'))) :
    Calls Try.prog 20 #[.pointer (some ⟨lb, 0, none⟩), .slice q n c] w fun e w' => e = .returned (.tuple #[.int .i64 ((first : Int) + l.length), .int .i64 0]) ∧ ∃ tg' lt' a c', LJ P w0 w' pb lb D' (some ⟨pb, 0, none⟩) first (l ++ [⟨b, a, c'⟩]) tg' lt' := by
  obtain ⟨v, hg⟩ := h.out.g
  have H42 : Hid (Calls Try.prog 42 #[.pointer (some ⟨lb, 0, none⟩)] w fun e w' => e = .returned (.bool false) ∧ w' = w) := over_no w lb _ _ _ hg.cell
  have H43 : Hid (Calls Try.prog 43 #[.slice q n c] w fun e w' => ∃ q' c', e = .returned (.tuple #[.slice q' (n + 8 : Nat) c', .int .i64 0]) ∧ Own w' w.heap.size (.slice q' (n + 8 : Nat) c') (Crc.frame b) ∧ Below w.heap.size w w') := by
    have := frame_any b q c w (by rw [hb.out]; omega) hL.out.lies hz.out
    rw [hb.out] at this
    exact this
  clear hg
  have hn1 : (n : Int) ≤ 4080 := by omega
  go_enter Try.func20, Try.ntmps20
  go_wp2_with (go_at_call 42; refine H42.out.mono ?_)
  rintro e w1 ⟨rfl, rfl⟩
  go_wp2_with (go_at_call 43; refine H43.out.mono ?_)
  first | rintro e w2 q2 c2 rfl o2 b2 | rintro e w2 ⟨q2, c2, rfl, o2, b2⟩
  have H2 : Hid (LJ P w0 w2 pb lb D (some ⟨pb, 0, none⟩) first l tg lt) := h.out.keep b2
  have L2 : Hid (LiesOff w2 lt q b) := hL2.out.step (Step.of_below _ b2)
  have K2 : Hid (LiesOff w2 tg q b) := hL.out.step (Step.of_below _ b2)
  have H28 : Hid (Calls Try.prog 28 #[.pointer (some ⟨pb, 0, none⟩), .string ⟨#[108, 111, 103]⟩, .slice q2 (n + 8) c2] w2 fun e w' => e = .returned (.int .i64 0) ∧ ∃ tg', LJ P w0 w' pb lb D' (some ⟨pb, 0, none⟩) first l tg' lt ∧ LiesOff w' lt q b) := by
    obtain ⟨h1, h2, h3⟩ := own_parts o2
    have hoff : LiesOff w2 tg q2 (Crc.frame b) := lo_own o2 fun g hg => no_of fun e => by have := h.out.d.lt e; omega
    have := append_any H2.out.d ⟨⟨nmL⟩⟩ (by decide) q2 (n + 8) c2 (Crc.frame b) (by omega) h3 h2 hoff
    have hA' : appendD D (⟨⟨nmL⟩⟩ : ByteArray).data.toList (Crc.frame b) = (0, D') := hA.out
    rw [hA'] at this
    refine this.mono ?_
    rintro e w' ⟨rfl, tg', d, st⟩
    refine ⟨rfl, tg', H2.out.left d st, ?_⟩
    rcases L2.out with h0 | ⟨g, o, e, hr, hlt, hno⟩
    · exact .inl h0
    · rcases K2.out with h0 | ⟨g', o', e', hr', hlt', hno'⟩
      · exact .inl h0
      · rw [e] at e'
        cases e'
        exact .inr ⟨g, o, e, hr.keepAt (st.1.block g hlt fun k => k hno'), Nat.lt_of_lt_of_le hlt st.1.size, hno⟩
  obtain ⟨v2, hg2⟩ := H2.out.g
  obtain ⟨e0, e1, e2⟩ := k3 hg2.cell
  clear hg2 o2 b2 H43 H42
  go_wp2_with (go_at_call 28; refine H28.out.mono ?_)
  first | rintro e w3 rfl tg3 h3 l3 | rintro e w3 ⟨rfl, tg3, h3, l3⟩
  have H3 : Hid (LJ P w0 w3 pb lb D' (some ⟨pb, 0, none⟩) first l tg3 lt) := h3
  have L3 : Hid (LiesOff w3 lt q b) := l3
  clear h3 l3 H28 e0 e1 e2
  go_wp2_with (go_at_call 44; refine (opr_ok w3 _).mono ?_)
  first | rintro e w4 rfl rfl | rintro e w4 ⟨rfl, rfl⟩
  obtain ⟨v4, hg4⟩ := H3.out.g
  obtain ⟨z1, z2, z3, hv4⟩ : ∃ z1 z2 z3, v4 = .slice z1 z2 z3 := by
    rcases hg4.own.2 with ⟨rfl, _⟩ | ⟨g, cap, cur, rfl, _⟩
    · exact ⟨_, _, _, rfl⟩
    · exact ⟨_, _, _, rfl⟩
  subst hv4
  have hz2 : z2 = l.length := by
    rcases hg4.own.2 with ⟨e, h0⟩ | ⟨g, cap, cur, e, _⟩
    · cases e; exact h0.symm
    · cases e; rfl
  subst hz2
  have H22 : Hid (Calls Try.prog 22 #[.pointer (some ⟨lb, 0, none⟩)] w4 fun e w' => e = .returned (.int .i64 ((first : Int) + l.length)) ∧ Below w4.heap.size w4 w') := next_at w4 lb _ _ _ _ _ (by omega) (by omega) hg4.cell
  have HG4 : Hid (LgAt w4 lt lb (some ⟨pb, 0, none⟩) first (.slice z1 l.length z3) l) := hg4
  clear hg4
  go_wp2_with (go_at_call 22; refine H22.out.mono ?_)
  first | rintro e w5 rfl b5 | rintro e w5 ⟨rfl, b5⟩
  have H5 : Hid (LJ P w0 w5 pb lb D' (some ⟨pb, 0, none⟩) first l tg3 lt) := H3.out.keep b5
  have L5 : Hid (LiesOff w5 lt q b) := L3.out.step (Step.of_below _ b5)
  have HG : Hid (LgAt w5 lt lb (some ⟨pb, 0, none⟩) first (.slice z1 l.length z3) l) := HG4.out.keep (fun k hk => b5.block k (HG4.out.lt_ k hk)) b5.size
  obtain ⟨e0, e1, e2⟩ := k3 HG.out.cell
  clear b5 H22 H3 L3 HG4
  have f2 := fz HG.out.cell 2
  have H45 : Hid (Calls Try.prog 45 #[.slice q n c] w5.drew fun e w' => ∃ q6 c6, e = .returned (.slice q6 n c6) ∧ Own w' w5.heap.size (.slice q6 n c6) b ∧ Below w5.heap.size w5 w') := by
    have := bc_any b q c w5.drew (by rw [hb.out]; omega) (L5.out.lies.keep (Below.refl w5.heap.size w5).drew (Nat.le_refl _)) hz.out
    rw [hb.out] at this
    refine this.mono ?_
    rintro e w' ⟨q6, c6, rfl, o6, b6⟩
    exact ⟨q6, c6, rfl, o6, (Below.refl _ w5).drew.trans b6⟩
  obtain ⟨i0, hi, hz0, hz1, hz2⟩ := info_parts info31
  have HI : Hid (Try.prog.info? 31 = some i0 ∧ i0.zero = some (.slice none 0 0) ∧ i0.size = 1 ∧ i0.bytes = 24) := ⟨hi, hz0, hz1, hz2⟩
  clear hi hz0 hz1 hz2
  have HW : Hid (∀ (q6 : Option Addr) (c6 : Nat) (w6 : World), Own w6 w5.heap.size (.slice q6 n c6) b → Below w5.heap.size w5 w6 → ((w6.alloc (.cells #[.slice q6 n c6] 31)).ownsRow 0 31 1 (.slice z1 l.length z3) l.length (l.map RC.v)) ∧ (∀ j u, [Value.slice q6 n c6][j]? = some u → (w6.alloc (.cells #[.slice q6 n c6] 31)).cell? ((⟨w6.heap.size, 0, none⟩ : Addr).add j) = some u) ∧ (w6.alloc (.cells #[.slice q6 n c6] 31)).heap.size = w6.heap.size + 1 ∧ ∀ g cap w7, w7.ownsRow 0 31 1 (.slice (some ⟨g, 0, none⟩) (l.length + 1) cap) (l.length + 1) (l.map RC.v ++ [.slice q6 n c6]) → (w6.alloc (.cells #[.slice q6 n c6] 31)).grownBy w7 (Value.slice z1 l.length z3).ownBlock → ((Value.slice z1 l.length z3).ownBlock = some g ∨ g = w6.heap.size + 1) → w7.heap[lb]? = some (.cells #[.pointer (some ⟨pb, 0, none⟩), .int .i64 first, .slice z1 l.length z3] 77 (0, 0)) ∧ ∃ lt', LgAt (w7.setCell ⟨lb, 2, none⟩ (.slice (some ⟨g, 0, none⟩) (l.length + 1) cap)) lt' lb (some ⟨pb, 0, none⟩) first (.slice (some ⟨g, 0, none⟩) (l.length + 1) cap) (l ++ [⟨b, q6, c6⟩]) ∧ Step lt lt' w5 (w7.setCell ⟨lb, 2, none⟩ (.slice (some ⟨g, 0, none⟩) (l.length + 1) cap))) := by
    intro q6 c6 w6 o6 b6
    refine ⟨ownsKeep HG.out.own fun g hg => ?_, World.news_of_block (cs := #[.slice q6 n c6]) (t := 31) (fr := (0, 0)) new0, by simp, fun g cap w7 a1 a2 a3 => ?_⟩
    · exact (b6.alloc b6.size _).block g (World.ownsRow.lt HG.out.own g hg).2
    · have hbn := hb.out
      subst hbn
      exact apW HG.out hl hf hn o6 b6 a1 a2 a3
  go_wp2_with fail
  go_region_law (first | (go_simp; go_at_call 45; refine H45.out.mono ?_; rintro e w6 ⟨q6, c6, rfl, o6, b6⟩; have O6 : Hid (Own w6 w5.heap.size (.slice q6 n c6) b ∧ Below w5.heap.size w5 w6) := ⟨o6, b6⟩; have hc6 := at_below b6 (Nat.le_refl _) HG.out.cell; obtain ⟨y0, y1, y2⟩ := k3 hc6; have hlb6 : lb < w6.heap.size := block_lt_of_cell y2; clear o6 b6 hc6) | (refine step_append_lies _ rfl (.tmp 37) (.tmp 40) 38 rfl 0 31 i0 _ 1 24 Try.underlying38 HI.out.1 HI.out.2.1 HI.out.2.2.1 HI.out.2.2.2 rfl (by decide) (.slice z1 l.length z3) l.length (l.map RC.v) (by simp [Act.eval]) (HW.out q6 c6 w6 O6.out.1 O6.out.2).1 ⟨w6.heap.size, 0, none⟩ 1 1 [.slice q6 n c6] (by simp [Act.eval]) rfl (HW.out q6 c6 w6 O6.out.1 O6.out.2).2.1 (fun u hu => by simp at hu; subst hu; rfl) (by decide) (by unfold maxLen; omega) (by omega) (Nat.zero_le _) _ (HW.out q6 c6 w6 O6.out.1 O6.out.2).2.2.1 ?_; intro g cap w7 hown hgrow hat hlt; obtain ⟨hw7, hpw⟩ := (HW.out q6 c6 w6 O6.out.1 O6.out.2).2.2.2 g cap w7 hown hgrow hat; clear hown hgrow hat hlt; obtain ⟨d0, d1, d2⟩ := k3 hw7; have df := fz hw7 2; have HP : Hid (∃ lt', LgAt (w7.setCell ⟨lb, 2, none⟩ (.slice (some ⟨g, 0, none⟩) (l.length + 1) cap)) lt' lb (some ⟨pb, 0, none⟩) first (.slice (some ⟨g, 0, none⟩) (l.length + 1) cap) (l ++ [⟨b, q6, c6⟩]) ∧ Step lt lt' w5 (w7.setCell ⟨lb, 2, none⟩ (.slice (some ⟨g, 0, none⟩) (l.length + 1) cap))) := hpw; clear hpw hw7))
  all_goals go_wp2_with fail
  all_goals go_ret2
  all_goals
    obtain ⟨lt', hg', st'⟩ := HP.out
    exact ⟨rfl, tg3, lt', q6, c6, H5.out.right hg' st'⟩
end Go.Proofs.Ytplcpjngpkghmaa

namespace Go.Proofs.Ytplcpjngpkghmaa
open Go.RowKit Go.Maps
variable {P : Nat → Obj → Prop}

set_option maxHeartbeats 400000 in
theorem lsy_over (w : World) (p : Value) (H : Hid (Calls Try.prog 42 #[p] w fun e w' => e = .returned (.bool true) ∧ w' = w)) :
    Calls Try.prog 26 #[p] w fun e w' => e = .returned (.int .i64 11) ∧ w' = w := by
  go_enter Try.func26, Try.ntmps26
  go_wp2_with (go_at_call 42; refine H.out.mono ?_)
  rintro e w1 ⟨rfl, rfl⟩
  go_wp2_with fail
  go_ret
  exact ⟨rfl, rfl⟩
set_option maxHeartbeats 400000 in
theorem ltr_over (w : World) (p : Value) (n : Int) (H : Hid (Calls Try.prog 42 #[p] w fun e w' => e = .returned (.bool true) ∧ w' = w)) :
    Calls Try.prog 25 #[p, .int .i64 n] w fun e w' => e = .returned (.int .i64 11) ∧ w' = w := by
  go_enter Try.func25, Try.ntmps25
  go_wp2_with (go_at_call 42; refine H.out.mono ?_)
  rintro e w1 ⟨rfl, rfl⟩
  go_wp2_with fail
  go_ret
  exact ⟨rfl, rfl⟩
set_option maxHeartbeats 1000000 in
theorem lsy_ok {w0 w : World} {pb lb first : Nat} {D : DK} {l : List RC} {tg lt : Nat → Tg} (h : Hid (LJ P w0 w pb lb D (some ⟨pb, 0, none⟩) first l tg lt)) (D' : DK) (hA : Hid (syncD D nmL = (0, D'))) :
    Calls Try.prog 26 #[.pointer (some ⟨lb, 0, none⟩)] w fun e w' => e = .returned (.int .i64 0) ∧ LJ P w0 w' pb lb D' (some ⟨pb, 0, none⟩) first l tg lt := by
  obtain ⟨v, hg⟩ := h.out.g
  obtain ⟨e0, e1, e2⟩ := k3 hg.cell
  have H42 : Hid (Calls Try.prog 42 #[.pointer (some ⟨lb, 0, none⟩)] w fun e w' => e = .returned (.bool false) ∧ w' = w) := over_no w lb _ _ _ hg.cell
  have H29 : Hid (Calls Try.prog 29 #[.pointer (some ⟨pb, 0, none⟩), .string ⟨#[108, 111, 103]⟩] w fun e w' => e = .returned (.int .i64 0) ∧ LJ P w0 w' pb lb D' (some ⟨pb, 0, none⟩) first l tg lt) := by
    have := sync_any h.out.d ⟨⟨nmL⟩⟩ (by decide)
    have hA' : syncD D (⟨⟨nmL⟩⟩ : ByteArray).data.toList = (0, D') := hA.out
    rw [hA'] at this
    refine this.mono ?_
    rintro e w' ⟨rfl, d, st⟩
    exact ⟨rfl, h.out.left d st⟩
  clear hg
  go_enter Try.func26, Try.ntmps26
  go_wp2_with (go_at_call 42; refine H42.out.mono ?_)
  rintro e w1 ⟨rfl, rfl⟩
  go_wp2_with (go_at_call 29; refine H29.out.mono ?_)
  rintro e w2 ⟨rfl, h2⟩
  have H2 : Hid (LJ P w0 w2 pb lb D' (some ⟨pb, 0, none⟩) first l tg lt) := h2
  clear h2
  go_wp2_with (go_at_call 44; refine (opr_ok w2 _).mono ?_)
  rintro e w3 ⟨rfl, rfl⟩
  go_wp2_with fail
  go_ret
  exact ⟨rfl, H2.out⟩

/-! ### Get -/
set_option maxHeartbeats 400000 in
theorem get_nil (w : World) (n : Int) : Calls Try.prog 23 #[.pointer none, .int .i64 n] w fun e w' => e = .returned (.tuple #[.slice none 0 0, .int .i64 2]) ∧ w' = w := by
  have H1 : Hid (Calls Try.prog 21 #[.pointer none] w fun e w' => e = .returned (.int .i64 0) ∧ w' = w) := first_nil w
  have H2 : Hid (Calls Try.prog 22 #[.pointer none] w fun e w' => e = .returned (.int .i64 0) ∧ w' = w) := next_nil w
  by_cases h0 : n < 0
  · go_enter Try.func23, Try.ntmps23
    go_wp2_with (first | (go_at_call 21; refine H1.out.mono ?_; rintro e w1 ⟨rfl, rfl⟩) | (go_at_call 22; refine H2.out.mono ?_; rintro e w2 ⟨rfl, rfl⟩))
    all_goals go_ret2
    all_goals exact ⟨rfl, rfl⟩
  · have h1 : 0 ≤ n := by omega
    clear h0
    go_enter Try.func23, Try.ntmps23
    go_wp2_with (first | (go_at_call 21; refine H1.out.mono ?_; rintro e w1 ⟨rfl, rfl⟩) | (go_at_call 22; refine H2.out.mono ?_; rintro e w2 ⟨rfl, rfl⟩))
    all_goals go_ret2
    all_goals exact ⟨rfl, rfl⟩
set_option maxHeartbeats 2000000 in
theorem get_ok {w0 w : World} {pb lb first : Nat} {D : DK} {pt : Option Addr} {l : List RC} {tg lt : Nat → Tg} (h : Hid (LJ P w0 w pb lb D pt first l tg lt)) (k : Nat) (r : RC) (hr : Hid (l[k]? = some r)) (hk : k < l.length) (hfb : first + l.length < 4611686018427387904) :
    Calls Try.prog 23 #[.pointer (some ⟨lb, 0, none⟩), .int .i64 ((first : Int) + k)] w fun e w' => ∃ q c, e = .returned (.tuple #[.slice q r.b.length c, .int .i64 0]) ∧ Own w' w.heap.size (.slice q r.b.length c) r.b ∧ Below w.heap.size w w' := by
  obtain ⟨v, hg⟩ := h.out.g
  obtain ⟨z1, z3, hv⟩ : ∃ z1 z3, v = .slice z1 l.length z3 := by
    rcases hg.own.2 with ⟨rfl, h0⟩ | ⟨g, cap, cur, rfl, _⟩
    · omega
    · exact ⟨_, _, rfl⟩
  subst hv
  have HG : Hid (LgAt w lt lb pt first (.slice z1 l.length z3) l) := hg
  obtain ⟨g, hz1, hcr⟩ : ∃ g, z1 = some ⟨g, 0, none⟩ ∧ w.cell? ⟨g, k, none⟩ = some (.slice r.a r.b.length r.c) := by
    rcases hg.own.2 with ⟨_, h0⟩ | ⟨g, cap, cur, e, _⟩
    · omega
    · cases e
      have := World.ownsRow.cells hg.own (g := g) rfl k (RC.v r) (by rw [List.getElem?_map, hr.out]; rfl)
      rw [Addr.add_lit, Nat.zero_add] at this
      exact ⟨g, rfl, this⟩
  subst hz1
  have hR := hg.fl r (List.mem_of_getElem? hr.out)
  have hLr : Lies w r.a r.b := by
    rcases hR.row with h1 | ⟨g', o', h1, h2, _⟩
    · exact .inl h1
    · exact .inr ⟨g', o', h1, h2⟩
  have H1 : Hid (Calls Try.prog 21 #[.pointer (some ⟨lb, 0, none⟩)] w fun e w' => e = .returned (.int .i64 first) ∧ w' = w) := first_at w lb _ _ _ hg.cell
  have H2 : Hid (Calls Try.prog 22 #[.pointer (some ⟨lb, 0, none⟩)] w fun e w' => e = .returned (.int .i64 ((first : Int) + l.length)) ∧ Below w.heap.size w w') := next_at w lb _ _ _ _ _ (by omega) (by omega) hg.cell
  have HL : Hid (Lies w r.a r.b ∧ (r.a = none → r.c = 0) ∧ r.b.length ≤ 4080) := ⟨hLr, hR.hz, hR.hl⟩
  have hlt1 : ¬ (first : Int) + k < (first : Int) := by omega
  have hlt2 : (first : Int) + k < (first : Int) + l.length := by omega
  have hcell := hg.cell
  have HC : Hid (w.heap[lb]? = some (.cells #[.pointer pt, .int .i64 first, .slice (some ⟨g, 0, none⟩) l.length z3] 77 (0, 0))) := hcell
  clear hg hR hLr hcell
  go_enter Try.func23, Try.ntmps23
  go_wp2_with (first | (go_at_call 21; refine H1.out.mono ?_; rintro e w1 ⟨rfl, rfl⟩) | (go_at_call 22; refine H2.out.mono ?_))
  first | rintro e w2 rfl b2 | rintro e w2 ⟨rfl, b2⟩
  have hcr2 := (b2.cell (block_lt_of_cell hcr)).trans hcr
  obtain ⟨e0, e1, e2⟩ := k3 (at_below b2 (Nat.le_refl _) HC.out)
  have B2 : Hid (Below w1.heap.size w1 w2) := b2
  have H45 : Hid (Calls Try.prog 45 #[.slice r.a r.b.length r.c] w2.drew fun e w' => ∃ q6 c6, e = .returned (.slice q6 r.b.length c6) ∧ Own w' w1.heap.size (.slice q6 r.b.length c6) r.b ∧ Below w1.heap.size w1 w') := by
    have := bc_any r.b r.a r.c w2.drew (by have := HL.out.2.2; omega) ((HL.out.1.keep b2 (Nat.le_refl _)).keep (Below.refl w2.heap.size w2).drew (Nat.le_refl _)) HL.out.2.1
    refine this.mono ?_
    rintro e w' ⟨q6, c6, rfl, o6, b6⟩
    exact ⟨q6, c6, rfl, o6.low b2.size, below_from b2 ((Below.refl _ w2).drew.trans b6) b2.size⟩
  have hsub : (first : Int) + k - first = (k : Int) := by omega
  have hki : (k : Int) < (l.length : Int) := by omega
  have hwr : IntKind.i64.wrap (k : Int) = (k : Int) := by rw [IntKind.wrap_i64]; omega
  clear b2 hcr
  go_wp2_with fail
  go_region_with (go_at_call 45; refine H45.out.mono ?_; rintro e w6 ⟨q6, c6, rfl, o6, b6⟩)
  all_goals go_wp2_with fail
  all_goals go_ret2
  all_goals exact ⟨q6, c6, rfl, o6, b6⟩
end Go.Proofs.Ytplcpjngpkghmaa

namespace Go.Proofs.Ytplcpjngpkghmaa
open Go.RowKit Go.Maps
variable {P : Nat → Obj → Prop}

/-- the disk with a log's file alone -/
def dl (b : List UInt8) (sy : Nat) : DK := ⟨[⟨nmL, b, sy⟩], false, none⟩
theorem enc0_len : (encB 0 []).length = 16 := by
  unfold encB
  rw [List.flatMap_nil, List.append_nil, Crc.frame_length]
  rfl
theorem rep_new : replaceD DK.new 0 [] = (0, dl (encB 0 []) 16) := by
  have e1 : discardD DK.new = (0, DK.new) := by rfl
  have e2 : appendD DK.new nmS (encB 0 []) = (0, ⟨[⟨nmS, encB 0 [], 0⟩], false, none⟩) := by
    have h1 : okN nmS = true := by decide
    unfold appendD
    rw [h1]
    have h3 : ¬ 1048576 < (encB 0 []).length := by rw [enc0_len]; omega
    simp [DK.new, fnd, h3, burn, ins]
  have e3 : syncD ⟨[⟨nmS, encB 0 [], 0⟩], false, none⟩ nmS = (0, ⟨[⟨nmS, encB 0 [], (encB 0 []).length⟩], false, none⟩) := by rfl
  have e4 : renameD ⟨[⟨nmS, encB 0 [], (encB 0 []).length⟩], false, none⟩ nmS nmL = (0, dl (encB 0 []) (encB 0 []).length) := by rfl
  unfold replaceD
  rw [e1]
  simp only [ne_eq, not_true_eq_false, if_false]
  rw [e2]
  simp only [not_true_eq_false, if_false]
  rw [e3]
  simp only [not_true_eq_false, if_false]
  rw [e4, enc0_len]
theorem app_dl (b m : List UInt8) (sy : Nat) (h : b.length + m.length ≤ 1048576) : appendD (dl b sy) nmL m = (0, dl (b ++ m) sy) := by
  have h1 : okN nmL = true := by decide
  unfold appendD
  rw [h1]
  have h3 : ¬ 1048576 < b.length + m.length := by omega
  simp [dl, fnd, h3, burn, upd]
theorem syn_dl (b : List UInt8) (sy : Nat) : syncD (dl b sy) nmL = (0, dl b b.length) := by rfl

/-- a new disk's log -/
theorem open_fresh {w0 w : World} (hb : Below w0.heap.size w0 w) {pb : Nat} {tg : Nat → Tg} (h : Dsk w tg pb DK.new) (ht : ∀ k, tg k ≠ .no → w0.heap.size ≤ k) (hpr : ∀ g o, P g o → w.heap[g]? = some o ∧ tg g = .no) :
    Calls Try.prog 27 #[.pointer (some ⟨pb, 0, none⟩)] w fun e w' => e = .returned (.tuple #[.pointer (some ⟨w.heap.size, 0, none⟩), .int .i64 0]) ∧ ∃ tg' lt, LJ P w0 w' pb w.heap.size (dl (encB 0 []) 16) (some ⟨pb, 0, none⟩) 0 [] tg' lt := by
  have := open_new (P := P) (w0 := w0) h ht hb rfl hpr rfl (show Hid ((replaceD DK.new 0 []).1 = 0) from by rw [rep_new]; exact rfl)
  rw [rep_new] at this
  exact this
set_option maxHeartbeats 1000000 in
theorem opened_fresh {w0 w : World} {pb : Nat} {tg : Nat → Tg} (u : Value) (hb : Hid (Below w0.heap.size w0 w)) (h : Hid (Dsk w tg pb DK.new)) (ht : Hid (∀ k, tg k ≠ .no → w0.heap.size ≤ k)) (hpr : Hid (∀ g o, P g o → w.heap[g]? = some o ∧ tg g = .no)) :
    Calls Try.prog 12 #[.pointer (some ⟨pb, 0, none⟩), u] w fun e w' => e = .returned (.pointer (some ⟨w.heap.size, 0, none⟩)) ∧ ∃ tg' lt, LJ P w0 w' pb w.heap.size (dl (encB 0 []) 16) (some ⟨pb, 0, none⟩) 0 [] tg' lt := by
  have H27 : Hid (Calls Try.prog 27 #[.pointer (some ⟨pb, 0, none⟩)] w fun e w' => e = .returned (.tuple #[.pointer (some ⟨w.heap.size, 0, none⟩), .int .i64 0]) ∧ ∃ tg' lt, LJ P w0 w' pb w.heap.size (dl (encB 0 []) 16) (some ⟨pb, 0, none⟩) 0 [] tg' lt) := open_fresh hb.out h.out ht.out hpr.out
  go_enter Try.func12, Try.ntmps12
  go_wp2_with fail
  go_loopw [5] (fun i wr => i = .int .i64 0 ∧ wr = w) (fun _ _ => 0)
  case atStart => exact ⟨rfl, rfl⟩
  case round =>
    obtain ⟨rfl, rfl⟩ := hrel
    go_wp2_with (go_at_call 27; refine H27.out.mono ?_)
    first | rintro e w1 rfl tg1 lt1 h1 | rintro e w1 ⟨rfl, tg1, lt1, h1⟩
    go_wp2_with fail
    go_ret
    exact ⟨rfl, tg1, lt1, h1⟩

theorem new_law (w0 w : World) (y : Below w0.heap.size w0 w) : Calls Try.prog 11 #[] w fun e w' => ∃ pb, e = .returned (.pointer (some ⟨pb, 0, none⟩)) ∧ ∃ tg, Dsk w' tg pb DK.new ∧ (∀ k, tg k ≠ .no → w0.heap.size ≤ k) ∧ Below w0.heap.size w0 w' := by
  refine (new_at w).mono ?_
  rintro e w' ⟨rfl, e2⟩
  exact ⟨_, rfl, _, dsk_new w w' e2, fun kk h => by rw [tgN_new h]; exact y.size, by rw [e2]; exact below_from y ((Below.refl _ w).alloc (Nat.le_refl _) _) y.size⟩

set_option maxHeartbeats 2000000 in
set_option maxRecDepth 100000 in
theorem awake_any (w : World) : Calls Try.prog 9 #[] w fun e w' => e = .returned (.bool true) ∧ Below w.heap.size w w' := by
  go_enter Try.func9, Try.ntmps9
  go_wp2_with (go_at_call 11; refine (new_law w w (Below.refl _ _)).mono ?_)
  rintro e w1 ⟨pb, rfl, tg1, d1, t1, b1⟩
  have H27 : Hid (Calls Try.prog 27 #[.pointer (some ⟨pb, 0, none⟩)] w1 fun e w' => e = .returned (.tuple #[.pointer (some ⟨w1.heap.size, 0, none⟩), .int .i64 0]) ∧ ∃ tg' lt, LJ NoP w w' pb w1.heap.size (dl (encB 0 []) 16) (some ⟨pb, 0, none⟩) 0 [] tg' lt) := open_fresh b1 d1 t1 nofun
  clear d1 t1 b1
  go_wp2_with (go_at_call 27; refine H27.out.mono ?_)
  first | rintro e w2 rfl tg2 lt2 h2 | rintro e w2 ⟨rfl, tg2, lt2, h2⟩
  generalize w1.heap.size = lb at *
  have bw : Below w2.heap.size w2 (w2.alloc (.cells #[.int .u8 97] 5 (1, 2))) := (Below.refl _ w2).alloc (Nat.le_refl _) _
  have H2 : Hid (LJ NoP w (w2.alloc (.cells #[.int .u8 97] 5 (1, 2))) pb lb (dl (encB 0 []) 16) (some ⟨pb, 0, none⟩) 0 [] tg2 lt2) := h2.keep bw
  have hrow : Row (w2.alloc (.cells #[.int .u8 97] 5 (1, 2))) w2.heap.size 0 [97] := row_new (l := [97])
  have n1 : tg2 w2.heap.size = .no := no_of fun e => Nat.lt_irrefl _ (h2.d.lt e)
  have n2 : lt2 w2.heap.size = .no := no_of fun e => by obtain ⟨_, hg⟩ := h2.g; exact Nat.lt_irrefl _ (hg.lt_ _ e)
  have H20 : Hid (Calls Try.prog 20 #[.pointer (some ⟨lb, 0, none⟩), .slice (some ⟨w2.heap.size, 0, none⟩) 1 1] (w2.alloc (.cells #[.int .u8 97] 5 (1, 2))) fun e w' => e = .returned (.tuple #[.int .i64 0, .int .i64 0]) ∧ ∃ tg' lt' a c', LJ NoP w w' pb lb (dl (encB 0 [] ++ Crc.frame [97]) 16) (some ⟨pb, 0, none⟩) 0 [⟨[97], a, c'⟩] tg' lt') :=
    lap_ok H2.out [97] (some ⟨w2.heap.size, 0, none⟩) 1 1 (by omega) rfl nofun (.inr ⟨_, 0, rfl, hrow, by simp, n1⟩) (.inr ⟨_, 0, rfl, hrow, by simp, n2⟩) (by simp) (by simp) _ (app_dl _ _ _ (by rw [enc0_len, Crc.frame_length]; simp))
  have q31 := Lib.run_convert_bytes_const (P := Try.prog) w2 31 5 #[.int .u8 97] 1 1 Try.underlying31 Try.underlying5
  clear bw hrow n1 n2 h2 H27
  go_wp2_with (go_at_call 20; refine H20.out.mono ?_)
  first | rintro e w3 rfl tg3 lt3 a3 c3 h3 | rintro e w3 ⟨rfl, tg3, lt3, a3, c3, h3⟩
  have H3 : Hid (LJ NoP w w3 pb lb (dl (encB 0 [] ++ Crc.frame [97]) 16) (some ⟨pb, 0, none⟩) 0 [⟨[97], a3, c3⟩] tg3 lt3) := h3
  have H23 : Hid (Calls Try.prog 23 #[.pointer (some ⟨lb, 0, none⟩), .int .i64 0] w3 fun e w' => ∃ q c, e = .returned (.tuple #[.slice q 1 c, .int .i64 0]) ∧ Own w' w3.heap.size (.slice q 1 c) [97] ∧ Below w3.heap.size w3 w') := get_ok H3.out 0 ⟨[97], a3, c3⟩ rfl (by simp) (by simp)
  clear h3 H20 H2
  go_wp2_with (go_at_call 23; refine H23.out.mono ?_)
  first | rintro e w4 q4 c4 rfl o4 b4 | rintro e w4 ⟨q4, c4, rfl, o4, b4⟩
  have hs4 := str_of_own o4 (by simp)
  have H4 : Hid (LJ NoP w w4 pb lb (dl (encB 0 [] ++ Crc.frame [97]) 16) (some ⟨pb, 0, none⟩) 0 [⟨[97], a3, c3⟩] tg3 lt3) := H3.out.keep b4
  obtain ⟨v4, hg4⟩ := H4.out.g
  obtain ⟨z1, z3, hv⟩ : ∃ z1 z3, v4 = .slice z1 1 z3 := by
    rcases hg4.own.2 with ⟨rfl, h0⟩ | ⟨g, cap, cur, rfl, _⟩
    · simp at h0
    · exact ⟨_, _, rfl⟩
  subst hv
  have H22 : Hid (Calls Try.prog 22 #[.pointer (some ⟨lb, 0, none⟩)] w4 fun e w' => e = .returned (.int .i64 1) ∧ Below w4.heap.size w4 w') := next_at w4 lb _ 0 _ 1 _ (by omega) (by omega) hg4.cell
  have B4 : Hid (Below w.heap.size w w4) := H4.out.b
  clear hg4 o4 b4 H3 H23 H4
  go_wp2_with (go_at_call 22; refine H22.out.mono ?_)
  first | rintro e w5 rfl b5 | rintro e w5 ⟨rfl, b5⟩
  go_wp2_with fail
  go_ret
  exact ⟨rfl, below_from B4.out b5 B4.out.size⟩
end Go.Proofs.Ytplcpjngpkghmaa

namespace Go.Proofs.Ytplcpjngpkghmaa
open Go.RowKit Go.Maps
variable {P : Nat → Obj → Prop}

set_option maxHeartbeats 1000000 in
theorem ltr_below {w0 w : World} {pb lb first : Nat} {D : DK} {l : List RC} {tg lt : Nat → Tg} (h : Hid (LJ P w0 w pb lb D (some ⟨pb, 0, none⟩) first l tg lt)) (n : Int) (hn : n < (first : Int)) :
    Calls Try.prog 25 #[.pointer (some ⟨lb, 0, none⟩), .int .i64 n] w fun e w' => e = .returned (.int .i64 2) ∧ w' = w := by
  obtain ⟨v, hg⟩ := h.out.g
  have H42 : Hid (Calls Try.prog 42 #[.pointer (some ⟨lb, 0, none⟩)] w fun e w' => e = .returned (.bool false) ∧ w' = w) := over_no w lb _ _ _ hg.cell
  have H21 : Hid (Calls Try.prog 21 #[.pointer (some ⟨lb, 0, none⟩)] w fun e w' => e = .returned (.int .i64 first) ∧ w' = w) := first_at w lb _ _ _ hg.cell
  clear hg
  go_enter Try.func25, Try.ntmps25
  go_wp2_with (go_at_call 42; refine H42.out.mono ?_)
  rintro e w1 ⟨rfl, rfl⟩
  go_wp2_with (go_at_call 21; refine H21.out.mono ?_)
  rintro e w2 ⟨rfl, rfl⟩
  go_wp2_with fail
  go_ret
  exact ⟨rfl, rfl⟩
theorem lg_slice {w : World} {lt : Nat → Tg} {lb first : Nat} {pt : Option Addr} {v : Value} {l : List RC} (h : LgAt w lt lb pt first v l) : ∃ q c, v = .slice q l.length c := by
  rcases h.own.2 with ⟨rfl, h0⟩ | ⟨g, cap, cur, rfl, _⟩
  · exact ⟨none, 0, by rw [h0]⟩
  · exact ⟨_, _, rfl⟩
set_option maxHeartbeats 1000000 in
theorem ltr_above {w0 w : World} {pb lb first : Nat} {D : DK} {l : List RC} {tg lt : Nat → Tg} (h : Hid (LJ P w0 w pb lb D (some ⟨pb, 0, none⟩) first l tg lt)) (n : Int) (h0 : (first : Int) ≤ n) (hn : (first : Int) + l.length < n) :
    Calls Try.prog 25 #[.pointer (some ⟨lb, 0, none⟩), .int .i64 n] w fun e w' => e = .returned (.int .i64 2) ∧ LJ P w0 w' pb lb D (some ⟨pb, 0, none⟩) first l tg lt := by
  obtain ⟨v, hg⟩ := h.out.g
  obtain ⟨q, c, rfl⟩ := lg_slice hg
  have H42 : Hid (Calls Try.prog 42 #[.pointer (some ⟨lb, 0, none⟩)] w fun e w' => e = .returned (.bool false) ∧ w' = w) := over_no w lb _ _ _ hg.cell
  have H21 : Hid (Calls Try.prog 21 #[.pointer (some ⟨lb, 0, none⟩)] w fun e w' => e = .returned (.int .i64 first) ∧ w' = w) := first_at w lb _ _ _ hg.cell
  have H22 : Hid (Calls Try.prog 22 #[.pointer (some ⟨lb, 0, none⟩)] w fun e w' => e = .returned (.int .i64 ((first : Int) + l.length)) ∧ Below w.heap.size w w') := next_at w lb _ _ _ _ _ (by omega) (by have := hg.bd; omega) hg.cell
  clear hg
  go_enter Try.func25, Try.ntmps25
  go_wp2_with (go_at_call 42; refine H42.out.mono ?_)
  rintro e w1 ⟨rfl, rfl⟩
  go_wp2_with (go_at_call 21; refine H21.out.mono ?_)
  rintro e w2 ⟨rfl, rfl⟩
  go_wp2_with (go_at_call 22; refine H22.out.mono ?_)
  first | rintro e w3 rfl b3 | rintro e w3 ⟨rfl, b3⟩
  go_wp2_with fail
  go_ret
  exact ⟨rfl, h.out.keep b3⟩
set_option maxHeartbeats 1000000 in
theorem ltr_first {w0 w : World} {pb lb first : Nat} {D : DK} {l : List RC} {tg lt : Nat → Tg} (h : Hid (LJ P w0 w pb lb D (some ⟨pb, 0, none⟩) first l tg lt)) (D' : DK) (hA : Hid (syncD D nmL = (0, D'))) :
    Calls Try.prog 25 #[.pointer (some ⟨lb, 0, none⟩), .int .i64 first] w fun e w' => e = .returned (.int .i64 0) ∧ LJ P w0 w' pb lb D' (some ⟨pb, 0, none⟩) first l tg lt := by
  obtain ⟨v, hg⟩ := h.out.g
  obtain ⟨q, c, rfl⟩ := lg_slice hg
  have H42 : Hid (Calls Try.prog 42 #[.pointer (some ⟨lb, 0, none⟩)] w fun e w' => e = .returned (.bool false) ∧ w' = w) := over_no w lb _ _ _ hg.cell
  have H21 : Hid (Calls Try.prog 21 #[.pointer (some ⟨lb, 0, none⟩)] w fun e w' => e = .returned (.int .i64 first) ∧ w' = w) := first_at w lb _ _ _ hg.cell
  have H22 : Hid (Calls Try.prog 22 #[.pointer (some ⟨lb, 0, none⟩)] w fun e w' => e = .returned (.int .i64 ((first : Int) + l.length)) ∧ Below w.heap.size w w') := next_at w lb _ _ _ _ _ (by omega) (by have := hg.bd; omega) hg.cell
  have HC : Hid (w.heap[lb]? = some (.cells #[.pointer (some ⟨pb, 0, none⟩), .int .i64 first, .slice q l.length c] 77 (0, 0))) := hg.cell
  clear hg
  have g2 : (first : Int) ≤ (first : Int) + l.length := by omega
  go_enter Try.func25, Try.ntmps25
  go_wp2_with (go_at_call 42; refine H42.out.mono ?_)
  rintro e w1 ⟨rfl, rfl⟩
  go_wp2_with (first | (go_at_call 21; refine H21.out.mono ?_; rintro e w2 ⟨rfl, rfl⟩) | (go_at_call 22; refine H22.out.mono ?_))
  first | rintro e w3 rfl b3 | rintro e w3 ⟨rfl, b3⟩
  obtain ⟨e0, e1, e2⟩ := k3 (at_below b3 (Nat.le_refl _) HC.out)
  have H26 : Hid (Calls Try.prog 26 #[.pointer (some ⟨lb, 0, none⟩)] w3 fun e w' => e = .returned (.int .i64 0) ∧ LJ P w0 w' pb lb D' (some ⟨pb, 0, none⟩) first l tg lt) := lsy_ok (h.out.keep b3) D' hA
  clear b3
  go_wp2_with (go_at_call 26; refine H26.out.mono ?_)
  first | rintro e w4 rfl h4 | rintro e w4 ⟨rfl, h4⟩
  go_wp2_with fail
  go_ret
  exact ⟨rfl, h4⟩
end Go.Proofs.Ytplcpjngpkghmaa

namespace Go.Proofs.Ytplcpjngpkghmaa
open Go.RowKit Go.Maps

/-- a block behind a row of cells that is set -/
theorem setCells_at {t : TypeId} {g : Nat} : ∀ (vs : List Value) (o : Nat) (w : World) (cur : Array Value), w.heap[g]? = some (.cells cur t (0, 0)) → o + vs.length ≤ cur.size →
    ∃ cur' : Array Value, (w.setCells g o vs).heap[g]? = some (.cells cur' t (0, 0)) ∧ cur'.size = cur.size ∧ ∀ j, cur'[j]? = if o ≤ j ∧ j < o + vs.length then vs[j - o]? else cur[j]?
  | [], o, w, cur, h, _ => ⟨cur, h, rfl, fun j => by rw [if_neg (by simp)]⟩
  | v :: r, o, w, cur, h, hl => by
    simp only [List.length_cons] at hl
    have h1 := setB (i := o) h v
    obtain ⟨cur', e1, e2, e3⟩ := setCells_at r (o + 1) _ _ h1 (by simp; omega)
    refine ⟨cur', e1, by rw [e2]; simp, fun j => ?_⟩
    rw [e3 j]
    by_cases h2 : o + 1 ≤ j ∧ j < o + 1 + r.length
    · rw [if_pos h2, if_pos (by simp; omega), show j - o = (j - (o + 1)) + 1 by omega, List.getElem?_cons_succ]
    · rw [if_neg h2]
      by_cases h3 : j = o
      · subst h3
        rw [if_pos (by simp), Nat.sub_self]
        simp only [List.getElem?_cons_zero]
        rw [Array.getElem?_setIfInBounds_self_of_lt (by omega)]
      · rw [if_neg (by simp; omega)]
        rw [Array.getElem?_setIfInBounds_ne (Ne.symm h3)]
theorem setCells_ne (g : Nat) {k : Nat} (hk : k ≠ g) : ∀ (vs : List Value) (o : Nat) (w : World), (w.setCells g o vs).heap[k]? = w.heap[k]?
  | [], _, _ => rfl
  | _ :: r, o, _ => (setCells_ne g hk r (o + 1) _).trans (Below.heap_setCell _ _ _ _ hk)
theorem cells_at {w : World} {g : Nat} {cur : Array Value} {t : TypeId} (h : w.heap[g]? = some (.cells cur t (0, 0))) (j : Nat) : w.cell? ⟨g, j, none⟩ = cur[j]? ∧ w.frozen? ⟨g, j, none⟩ = false := by
  constructor
  · simp [World.cell?, h]
  · simp [World.frozen?, h]
set_option maxHeartbeats 4000000 in
set_option maxRecDepth 100000 in
theorem del_at (w : World) (g cap n k : Nat) (cur : Array Value) (xs : List Value) (hg : w.heap[g]? = some (.cells cur 31 (0, 0))) (hnc : n ≤ cap) (hm : cap ≤ 9223372036854775807) (hs : cur.size = cap) (hx : cur.toList.take n = xs) (hone : ∀ u ∈ xs, u.oneCell' = true) (h0 : 0 < k) (hk : k ≤ n) :
    Calls Try.prog 47 #[.slice (some ⟨g, 0, none⟩) n cap, .int .i64 0, .int .i64 k] w fun e w' => e = .returned (.slice (some ⟨g, 0, none⟩) (n - k) cap) ∧ w' = (w.drew.setCells g 0 (xs.drop k)).setCells g (n - k) (List.replicate k (.slice none 0 0)) := by
  obtain ⟨i0, hi0, hz0, hz1, hz2⟩ := info_parts info31
  have hxl : xs.length = n := by rw [← hx]; simp; omega
  obtain ⟨news, hnews⟩ : ∃ news, news = xs.drop k := ⟨_, rfl⟩
  have hlen : news.length = n - k := by rw [hnews]; simp [hxl]
  have hcell : ∀ j, j < n → w.cell? ⟨g, j, none⟩ = xs[j]? := fun j hj => by
    rw [(cells_at hg j).1, ← hx, List.getElem?_take, if_pos hj, Array.getElem?_toList]
  obtain ⟨A, hA, hsrc⟩ : ∃ A : Addr, (if cap = k then some (⟨g, 0, none⟩ : Addr) else some ⟨g, k, none⟩) = some A ∧ Hid (∀ t u, news[t]? = some u → w.drew.cell? (A.add t) = some u) := by
    by_cases h : cap = k
    · refine ⟨⟨g, 0, none⟩, by simp [h], fun t u hu => ?_⟩
      rw [List.length_eq_zero_iff.1 (by rw [hlen]; omega : news.length = 0)] at hu
      simp at hu
    · refine ⟨⟨g, k, none⟩, by simp [h], fun t u hu => ?_⟩
      have ht : t < n - k := by
        have := (List.getElem?_eq_some_iff.1 hu).1
        rwa [hlen] at this
      rw [hnews, List.getElem?_drop] at hu
      rw [Addr.add_lit]
      exact (hcell (k + t) (by omega)).trans hu
  have s1 : Hid (news.length = (n - k) * 1) := by rw [Nat.mul_one]; exact hlen
  have s2 : Hid (∀ u ∈ news, u.oneCell' = true) := fun u hu => hone u (List.mem_of_mem_drop (by rw [← hnews]; exact hu))
  have s3 : Hid (∀ t, t < news.length → (w.drew.cell? ⟨g, 0 + 0 * 1 + t, none⟩).isSome = true ∧ w.drew.frozen? ⟨g, 0 + 0 * 1 + t, none⟩ = false) := by
    intro t ht
    rw [hlen] at ht
    rw [show 0 + 0 * 1 + t = t by omega]
    refine ⟨?_, (cells_at hg t).2⟩
    show (w.cell? _).isSome = true
    rw [hcell t (by omega), List.getElem?_eq_getElem (by omega)]
    rfl
  obtain ⟨W1, hW1⟩ : ∃ W1, W1 = w.drew.setCells g (0 + 0 * 1) news := ⟨_, rfl⟩
  obtain ⟨cur1, q1, q2, q3⟩ := setCells_at news (0 + 0 * 1) w.drew cur hg (by rw [hlen]; omega)
  rw [← hW1] at q1
  have hcl : ∀ ty, (Builtin.clear_ #[38] ty #[.slice (some ⟨g, n - k, none⟩) (n - (n - k)) (cap - (n - k))]).run Try.prog W1 = .ok (.tuple #[]) (W1.setCells g (n - k) (List.replicate (n - (n - k)) (.slice none 0 0))) :=
    fun ty => Lib.run_clear_slice W1 _ _ ty _ Try.underlying38 Try.zeroValue31 rfl rfl g (n - k) _ _ (by omega) (fun t ht => by rw [(cells_at q1 _).1, Array.getElem?_eq_getElem (by omega)]; rfl) (fun t ht => (cells_at q1 _).2)
  have hW : Hid (W1 = w.drew.setCells g (0 + 0 * 1) news) := hW1
  have X : Aside (W1 = w.drew.setCells g 0 (xs.drop k)) := (show W1 = w.drew.setCells g 0 (xs.drop k) from by rw [hW1, hnews])
  have hkc : k ≤ cap := by omega
  have hki : (k : Int) ≤ (n : Int) := by omega
  have hki0 : (0 : Int) ≤ (k : Int) := by omega
  have hne : ((0 : Int) == (k : Int)) = false := by simp; omega
  clear hW1 hnews hlen hcell q1 q2 q3 hx hone hg hs hxl
  go_enter Try.func47, Try.ntmps47
  go_wp2_with fail
  go_region_law (refine step_append_room rfl (.tmp 22) (.tmp 25) 38 rfl 31 i0 1 Try.underlying38 hi0 hz1 g 0 0 cap (by simp [Act.eval, Act.put]) A (n - k) (cap - k) news (by simp [Act.eval, Act.put]) s1.out hsrc.out s2.out (by omega) s3.out ?_; rw [← hW.out])
  go_wp2
  go_ret
  refine ⟨by simp, ?_⟩
  rw [X.out, show n - (n - k) = k by omega]
end Go.Proofs.Ytplcpjngpkghmaa

namespace Go.Proofs.Ytplcpjngpkghmaa
open Go.RowKit Go.Maps
variable {P : Nat → Obj → Prop}

/-- the records behind the first k, as they are handed on -/
theorem recOff_drop {w0 w : World} {pb lb first g cap : Nat} {D : DK} {pt : Option Addr} {l : List RC} {tg lt : Nat → Tg} (h : LJ P w0 w pb lb D pt first l tg lt) (hg : LgAt w lt lb pt first (.slice (some ⟨g, 0, none⟩) l.length cap) l) (k : Nat) (hk : k ≤ l.length) (A : Addr) (hA : (if cap = k then some (⟨g, 0, none⟩ : Addr) else some ⟨g, k, none⟩) = some A) :
    RecOff w tg (.slice (some A) (l.length - k) (cap - k)) (l.drop k) := by
  have noT : ∀ j, lt j ≠ .no → tg j = .no := fun j hj => no_of fun e => hj (h.ap j e)
  refine ⟨?_, ?_, fun r hr => ?_⟩
  · by_cases h0 : l.length = k
    · left
      refine ⟨some A, cap - k, ?_, ?_⟩
      · rw [h0, Nat.sub_self]
      · exact List.drop_eq_nil_of_le (by omega)
    · right
      have hle : l.length ≤ cap := by
        rcases hg.own.2 with ⟨h1, _⟩ | ⟨g', cap', cur, h1, _, _, h2, _⟩
        · simp at h1
        · cases h1; exact h2
      rw [if_neg (by omega)] at hA
      cases hA
      refine ⟨g, k, cap - k, by rw [List.length_drop], fun j u hu => ?_, ?_, noT g (by rw [hg.tm g rfl]; exact nofun)⟩
      · have hu' : (l.map RC.v)[k + j]? = some u := by rw [← hu, List.map_drop, List.getElem?_drop]
        have := World.ownsRow.cells hg.own (g := g) rfl (k + j) u hu'
        rw [Addr.add_lit, Nat.zero_add] at this
        exact this
      · exact hg.lt_ g (by rw [hg.tm g rfl]; exact nofun)
  · rw [List.length_drop]
    have := hg.len
    omega
  · have hR := hg.fl r (List.mem_of_mem_drop hr)
    refine ⟨?_, hR.hz, hR.hl⟩
    rcases hR.row with h1 | ⟨g', o', h1, h2, h3⟩
    · exact .inl h1
    · exact .inr ⟨g', o', h1, h2, hg.lt_ g' (by rw [h3]; exact nofun), noT g' (by rw [h3]; exact nofun)⟩
theorem setCells_rest (g : Nat) : ∀ (vs : List Value) (o : Nat) (w : World), (w.setCells g o vs).os = w.os ∧ (w.setCells g o vs).tape = w.tape ∧ (w.setCells g o vs).output = w.output ∧ (w.setCells g o vs).heap.size = w.heap.size
  | [], _, _ => ⟨rfl, rfl, rfl, rfl⟩
  | v :: r, o, w => by
    have h := setCells_rest g r (o + 1) (w.setCell ⟨g, o, none⟩ v)
    exact ⟨h.1.trans rfl, h.2.1.trans rfl, h.2.2.1.trans rfl, h.2.2.2.trans (by simp [World.setCell])⟩
/-- behind the records' going -/
theorem trW {w : World} {lt : Nat → Tg} {lb first g cap k : Nat} {pt : Option Addr} {l : List RC} (h : LgAt w lt lb pt first (.slice (some ⟨g, 0, none⟩) l.length cap) l) (hk : k ≤ l.length) (w2 w3 : World)
    (h2 : w2 = ((w.setCell ⟨lb, 1, none⟩ (.int .i64 ((first + k : Nat) : Int))).drew.setCells g 0 ((l.map RC.v).drop k)).setCells g (l.length - k) (List.replicate k (.slice none 0 0))) (h3 : w3 = w2.setCell ⟨lb, 2, none⟩ (.slice (some ⟨g, 0, none⟩) (l.length - k) cap)) :
    LgAt w3 lt lb pt (first + k) (.slice (some ⟨g, 0, none⟩) (l.length - k) cap) (l.drop k) ∧ Step lt lt w w3 ∧ w2.heap[lb]? = some (.cells #[.pointer pt, .int .i64 ((first + k : Nat) : Int), .slice (some ⟨g, 0, none⟩) l.length cap] 77 (0, 0)) := by
  have tg' := h.tm g rfl
  have hgl : g ≠ lb := fun e => by rw [e, h.tp] at tg'; cases tg'
  rcases h.own.2 with ⟨h1, _⟩ | ⟨g', cap', cur, h1, _, hb, hn, hm, hs, hx⟩
  · simp at h1
  cases h1
  rw [Nat.mul_one] at hs hx
  have hb1 : (w.setCell ⟨lb, 1, none⟩ (.int .i64 ((first + k : Nat) : Int))).drew.heap[g]? = some (.cells cur 31 (0, 0)) := (Below.heap_setCell _ _ _ _ hgl).trans hb
  have hxl : ((l.map RC.v).drop k).length = l.length - k := by simp
  obtain ⟨c1, p1, p2, p3⟩ := setCells_at ((l.map RC.v).drop k) 0 _ cur hb1 (by rw [hxl]; omega)
  obtain ⟨c2, q1, q2, q3⟩ := setCells_at (List.replicate k (.slice none 0 0)) (l.length - k) _ c1 p1 (by simp; omega)
  rw [← h2] at q1
  have hat : ∀ j, j ≠ g → w2.heap[j]? = (w.setCell ⟨lb, 1, none⟩ (.int .i64 ((first + k : Nat) : Int))).heap[j]? := fun j hj => by
    rw [h2, setCells_ne g hj, setCells_ne g hj]
    rfl
  have hl2 : w2.heap[lb]? = some (.cells #[.pointer pt, .int .i64 ((first + k : Nat) : Int), .slice (some ⟨g, 0, none⟩) l.length cap] 77 (0, 0)) := (hat lb hgl.symm).trans (setB h.cell _)
  have hoth : ∀ j, j ≠ g → j ≠ lb → w3.heap[j]? = w.heap[j]? := fun j hj hj2 => by
    rw [h3]
    exact ((Below.heap_setCell _ _ _ _ hj2).trans (hat j hj)).trans (Below.heap_setCell _ _ _ _ hj2)
  have hsz : w3.heap.size = w.heap.size := by
    have a1 := (setCells_rest g ((l.map RC.v).drop k) 0 (w.setCell ⟨lb, 1, none⟩ (.int .i64 ((first + k : Nat) : Int))).drew).2.2.2
    have a2 := (setCells_rest g (List.replicate k (.slice none 0 0)) (l.length - k) ((w.setCell ⟨lb, 1, none⟩ (.int .i64 ((first + k : Nat) : Int))).drew.setCells g 0 ((l.map RC.v).drop k))).2.2.2
    rw [← h2, a1] at a2
    have a3 : w3.heap.size = w2.heap.size := by rw [h3]; simp [World.setCell]
    rw [a3, a2]
    simp [World.setCell, World.drew]
  refine ⟨⟨?_, h.tp, ?_, fun g' hg' => ?_, fun r hr => ?_, ?_, ?_, fun j hj => ?_⟩, ⟨?_, fun j hj => .inl hj⟩, hl2⟩
  · rw [h3]; exact setB hl2 _
  · refine ⟨by simp, .inr ⟨g, cap, c2, by rw [List.length_drop], Nat.zero_le _, ?_, by rw [List.length_drop]; omega, hm, by omega, ?_⟩⟩
    · rw [h3, Below.heap_setCell _ _ _ _ hgl]; exact q1
    · refine List.ext_getElem? fun j => ?_
      rw [List.length_drop, Nat.mul_one, List.getElem?_take]
      by_cases hj : j < l.length - k
      · rw [if_pos hj, Array.getElem?_toList, q3 j, if_neg (by omega), p3 j, if_pos (by rw [hxl]; omega), Nat.sub_zero, List.map_drop]
      · rw [if_neg hj, List.getElem?_eq_none (by simp; omega)]
  · exact h.tm g' hg'
  · refine (h.fl r (List.mem_of_mem_drop hr)).keep (fun j hj => hoth j ?_ ?_) (fun _ hj => hj)
    · intro e; rw [e, tg'] at hj; cases hj
    · intro e; rw [e, h.tp] at hj; cases hj
  · rw [List.length_drop]; have := h.len; omega
  · rw [List.length_drop]; have := h.bd; omega
  · rw [hsz]; exact h.lt_ j hj
  · refine ⟨?_, ?_, ?_, by rw [hsz]; exact Nat.le_refl _, fun j hj hn => hoth j (fun e => hn (by rw [e, tg']; exact nofun)) (fun e => hn (by rw [e, h.tp]; exact nofun))⟩
    · rw [h3, h2]; exact ((setCells_rest _ _ _ _).1).trans ((setCells_rest _ _ _ _).1)
    · rw [h3, h2]; exact ((setCells_rest _ _ _ _).2.1).trans ((setCells_rest _ _ _ _).2.1)
    · rw [h3, h2]; exact ((setCells_rest _ _ _ _).2.2.1).trans ((setCells_rest _ _ _ _).2.2.1)
theorem del_log {w : World} {lt : Nat → Tg} {lb first g cap k : Nat} {pt : Option Addr} {l : List RC} (h : LgAt w lt lb pt first (.slice (some ⟨g, 0, none⟩) l.length cap) l) (h0 : 0 < k) (hk : k ≤ l.length) :
    Calls Try.prog 47 #[.slice (some ⟨g, 0, none⟩) l.length cap, .int .i64 0, .int .i64 k] (w.setCell ⟨lb, 1, none⟩ (.int .i64 ((first : Int) + k))) fun e w2 => e = .returned (.slice (some ⟨g, 0, none⟩) (l.length - k) cap) ∧ w2.heap[lb]? = some (.cells #[.pointer pt, .int .i64 ((first : Int) + k), .slice (some ⟨g, 0, none⟩) l.length cap] 77 (0, 0)) ∧ LgAt (w2.setCell ⟨lb, 2, none⟩ (.slice (some ⟨g, 0, none⟩) (l.length - k) cap)) lt lb pt (first + k) (.slice (some ⟨g, 0, none⟩) (l.length - k) cap) (l.drop k) ∧ Step lt lt w (w2.setCell ⟨lb, 2, none⟩ (.slice (some ⟨g, 0, none⟩) (l.length - k) cap)) := by
  have tg' := h.tm g rfl
  have hgl : g ≠ lb := fun e => by rw [e, h.tp] at tg'; cases tg'
  rcases h.own.2 with ⟨h1, _⟩ | ⟨g', cap', cur, h1, _, hb, hn, hm, hs, hx⟩
  · simp at h1
  cases h1
  rw [Nat.mul_one] at hs hx
  refine (del_at _ g cap l.length k cur (l.map RC.v) ((Below.heap_setCell _ _ _ _ hgl).trans hb) hn hm hs hx (fun u hu => ?_) h0 hk).mono ?_
  · obtain ⟨r, _, rfl⟩ := List.mem_map.1 hu
    rfl
  · rintro e w2 ⟨rfl, h2⟩
    have h2' : w2 = ((w.setCell ⟨lb, 1, none⟩ (.int .i64 ((first + k : Nat) : Int))).drew.setCells g 0 ((l.map RC.v).drop k)).setCells g (l.length - k) (List.replicate k (.slice none 0 0)) := h2
    obtain ⟨a1, a2, a3⟩ := trW h hk w2 _ h2' rfl
    exact ⟨rfl, a3, a1, a2⟩
set_option maxHeartbeats 4000000 in
set_option maxRecDepth 100000 in
theorem ltr_ok {w0 w : World} {pb lb first : Nat} {D : DK} {l : List RC} {tg lt : Nat → Tg} (h : Hid (LJ P w0 w pb lb D (some ⟨pb, 0, none⟩) first l tg lt)) (k : Nat) (h0 : 0 < k) (hk : k ≤ l.length) (D' : DK) (hA : Hid (replaceD D (first + k) ((l.drop k).map RC.b) = (0, D'))) :
    Calls Try.prog 25 #[.pointer (some ⟨lb, 0, none⟩), .int .i64 ((first : Int) + k)] w fun e w' => e = .returned (.int .i64 0) ∧ ∃ tg', LJ P w0 w' pb lb D' (some ⟨pb, 0, none⟩) (first + k) (l.drop k) tg' lt := by
  obtain ⟨v, hg⟩ := h.out.g
  obtain ⟨g, cap, hv, hlc, hcm⟩ : ∃ g cap, v = .slice (some ⟨g, 0, none⟩) l.length cap ∧ l.length ≤ cap ∧ cap ≤ 9223372036854775807 := by
    rcases hg.own.2 with ⟨_, h1⟩ | ⟨g, cap, cur, e, _, _, h2, h3, _⟩
    · omega
    · exact ⟨g, cap, e, h2, h3⟩
  subst hv
  have H42 : Hid (Calls Try.prog 42 #[.pointer (some ⟨lb, 0, none⟩)] w fun e w' => e = .returned (.bool false) ∧ w' = w) := over_no w lb _ _ _ hg.cell
  have H21 : Hid (Calls Try.prog 21 #[.pointer (some ⟨lb, 0, none⟩)] w fun e w' => e = .returned (.int .i64 first) ∧ w' = w) := first_at w lb _ _ _ hg.cell
  have H22 : Hid (Calls Try.prog 22 #[.pointer (some ⟨lb, 0, none⟩)] w fun e w' => e = .returned (.int .i64 ((first : Int) + l.length)) ∧ Below w.heap.size w w') := next_at w lb _ _ _ _ _ (by omega) (by have := hg.bd; omega) hg.cell
  have HG : Hid (LgAt w lt lb (some ⟨pb, 0, none⟩) first (.slice (some ⟨g, 0, none⟩) l.length cap) l) := hg
  have hbd := hg.bd
  clear hg
  have g1 : (first : Int) ≤ (first : Int) + k := by omega
  have g2 : (first : Int) + k ≤ (first : Int) + l.length := by omega
  have g3 : ((first : Int) + k == (first : Int)) = false := by simp; omega
  have g4 : (first : Int) + k - first = k := by omega
  have g5 : IntKind.i64.wrap (k : Int) = (k : Int) := by rw [IntKind.wrap_i64]; omega
  have g6 : (k : Int) ≤ (l.length : Int) := by omega
  have g7 : k ≤ cap := by omega
  go_enter Try.func25, Try.ntmps25
  go_wp2_with (go_at_call 42; refine H42.out.mono ?_)
  rintro e w1 ⟨rfl, rfl⟩
  go_wp2_with (first | (go_at_call 21; refine H21.out.mono ?_; rintro e w2 ⟨rfl, rfl⟩) | (go_at_call 22; refine H22.out.mono ?_))
  first | rintro e w3 rfl b3 | rintro e w3 ⟨rfl, b3⟩
  have H3 : Hid (LJ P w0 w3.drew pb lb D (some ⟨pb, 0, none⟩) first l tg lt) := (h.out.keep b3).keep (Below.refl _ w3).drew
  have HG3 : Hid (LgAt w3.drew lt lb (some ⟨pb, 0, none⟩) first (.slice (some ⟨g, 0, none⟩) l.length cap) l) := (HG.out.keep (fun j hj => b3.block j (HG.out.lt_ j hj)) b3.size).keep (fun _ _ => rfl) (Nat.le_refl _)
  obtain ⟨e0, e1, e2⟩ := k3 (at_below b3 (Nat.le_refl _) HG.out.cell)
  obtain ⟨A, eA⟩ : ∃ A : Addr, (if cap = k then some (⟨g, 0, none⟩ : Addr) else some ⟨g, k, none⟩) = some A := by
    by_cases hh : cap = k
    · exact ⟨_, by rw [if_pos hh]⟩
    · exact ⟨_, by rw [if_neg hh]⟩
  have H46 : Hid (Calls Try.prog 46 #[.pointer (some ⟨pb, 0, none⟩), .int .i64 ((first : Int) + k), .slice (some A) (l.length - k) (cap - k)] w3.drew fun e w' => e = .returned (.int .i64 0) ∧ ∃ tg', LJ P w0 w' pb lb D' (some ⟨pb, 0, none⟩) first l tg' lt ∧ LgAt w' lt lb (some ⟨pb, 0, none⟩) first (.slice (some ⟨g, 0, none⟩) l.length cap) l) := by
    have := replace_any H3.out.d (first + k) (by omega) _ _ (recOff_drop H3.out HG3.out k hk A eA)
    rw [hA.out] at this
    refine this.mono ?_
    rintro e w' ⟨rfl, tg', d, st⟩
    exact ⟨rfl, tg', H3.out.left d st, HG3.out.keep (fun j hj => st.1.block j (HG3.out.lt_ j hj) fun e => hj (H3.out.ap j e)) st.1.size⟩
  clear b3 hbd
  go_wp2_with fail
  go_region_with (first | (go_at_call 46; refine H46.out.mono ?_; rintro e w4 ⟨rfl, tg4, h4, hg4⟩; have HL4 : Hid (LJ P w0 w4 pb lb D' (some ⟨pb, 0, none⟩) first l tg4 lt) := h4; have HG4 : Hid (LgAt w4 lt lb (some ⟨pb, 0, none⟩) first (.slice (some ⟨g, 0, none⟩) l.length cap) l) := hg4; clear h4 hg4) | (go_at_call 44; refine (opr_ok w4 _).mono ?_; rintro e w5 ⟨rfl, rfl⟩))
  all_goals
    obtain ⟨f0, f1, f2⟩ := k3 HG4.out.cell
    have z1 := fz HG4.out.cell 1
    have HD : Hid (Calls Try.prog 47 #[.slice (some ⟨g, 0, none⟩) l.length cap, .int .i64 0, .int .i64 k] (w5.setCell ⟨lb, 1, none⟩ (.int .i64 ((first : Int) + k))) fun e w2 => e = .returned (.slice (some ⟨g, 0, none⟩) (l.length - k) cap) ∧ w2.heap[lb]? = some (.cells #[.pointer (some ⟨pb, 0, none⟩), .int .i64 ((first : Int) + k), .slice (some ⟨g, 0, none⟩) l.length cap] 77 (0, 0)) ∧ LgAt (w2.setCell ⟨lb, 2, none⟩ (.slice (some ⟨g, 0, none⟩) (l.length - k) cap)) lt lb (some ⟨pb, 0, none⟩) (first + k) (.slice (some ⟨g, 0, none⟩) (l.length - k) cap) (l.drop k) ∧ Step lt lt w5 (w2.setCell ⟨lb, 2, none⟩ (.slice (some ⟨g, 0, none⟩) (l.length - k) cap))) := del_log HG4.out h0 hk
    go_wp2_with (go_at_call 47; refine HD.out.mono ?_)
  all_goals
    first | rintro e w6 rfl hc6 hg6 st6 | rintro e w6 ⟨rfl, hc6, hg6, st6⟩
    obtain ⟨y0, y1, y2⟩ := k3 hc6
    have z2 := fz hc6 2
    have HG6 : Hid (LgAt (w6.setCell ⟨lb, 2, none⟩ (.slice (some ⟨g, 0, none⟩) (l.length - k) cap)) lt lb (some ⟨pb, 0, none⟩) (first + k) (.slice (some ⟨g, 0, none⟩) (l.length - k) cap) (l.drop k) ∧ Step lt lt w5 (w6.setCell ⟨lb, 2, none⟩ (.slice (some ⟨g, 0, none⟩) (l.length - k) cap))) := ⟨hg6, st6⟩
    clear hg6 st6 hc6
    go_wp2_with fail
  all_goals go_ret
  all_goals exact ⟨rfl, tg4, HL4.out.right HG6.out.1 HG6.out.2⟩
end Go.Proofs.Ytplcpjngpkghmaa

namespace Go.Proofs.Ytplcpjngpkghmaa
open Go.RowKit Go.Maps
variable {P : Nat → Obj → Prop}

set_option maxHeartbeats 400000 in
theorem open_nil (w : World) : Calls Try.prog 27 #[.pointer none] w fun e w' => e = .returned (.tuple #[.pointer none, .int .i64 11]) ∧ w' = w := by
  have H17 : Hid (Calls Try.prog 17 #[.pointer none] w fun e w' => e = .returned (.bool true) ∧ w' = w) := down_nil w
  go_enter Try.func27, Try.ntmps27
  go_wp2_with (go_at_call 17; refine H17.out.mono ?_; rintro e w1 ⟨rfl, rfl⟩)
  all_goals go_ret2
  all_goals exact ⟨rfl, rfl⟩
theorem enc1_len (n : Nat) : (encB n []).length = 16 := by
  unfold encB
  rw [List.flatMap_nil, List.append_nil, Crc.frame_length]
  rfl
theorem rep_dl (bs : List UInt8) (sy : Nat) : replaceD (dl bs sy) 1 [] = (0, dl (encB 1 []) 16) := by
  have e1 : discardD (dl bs sy) = (0, dl bs sy) := by rfl
  have e2 : appendD (dl bs sy) nmS (encB 1 []) = (0, ⟨[⟨nmL, bs, sy⟩, ⟨nmS, encB 1 [], 0⟩], false, none⟩) := by
    have h1 : okN nmS = true := by decide
    have h2 : bytesBefore nmS nmL = false := by decide
    have h4 : ¬ nmL = nmS := by decide
    unfold appendD
    rw [h1]
    have h3 : ¬ 1048576 < (encB 1 []).length := by rw [enc1_len]; omega
    simp [dl, fnd, h2, h4, h3, burn, ins]
  have e3 : syncD ⟨[⟨nmL, bs, sy⟩, ⟨nmS, encB 1 [], 0⟩], false, none⟩ nmS = (0, ⟨[⟨nmL, bs, sy⟩, ⟨nmS, encB 1 [], (encB 1 []).length⟩], false, none⟩) := by rfl
  have e4 : renameD ⟨[⟨nmL, bs, sy⟩, ⟨nmS, encB 1 [], (encB 1 []).length⟩], false, none⟩ nmS nmL = (0, dl (encB 1 []) (encB 1 []).length) := by rfl
  unfold replaceD
  rw [e1]
  simp only [ne_eq, not_true_eq_false, if_false]
  rw [e2]
  simp only [not_true_eq_false, if_false]
  rw [e3]
  simp only [not_true_eq_false, if_false]
  rw [e4, enc1_len]
theorem trim_any {w0 w : World} {pb lb : Nat} {bs : List UInt8} {sy : Nat} {l : List RC} {tg lt : Nat → Tg} (h : LJ P w0 w pb lb (dl bs sy) (some ⟨pb, 0, none⟩) 0 l tg lt) (hl : l.length ≤ 1) (n : Int) :
    Calls Try.prog 25 #[.pointer (some ⟨lb, 0, none⟩), .int .i64 n] w fun e w' => ∃ i D' first' l' tg' lt', e = .returned (.int .i64 i) ∧ LJ P w0 w' pb lb D' (some ⟨pb, 0, none⟩) first' l' tg' lt' ∧ first' + l'.length = l.length ∧ ((0 ≤ n ∧ n ≤ (l.length : Int) ∧ i = 0) ∨ (n < 0 ∧ i = 2 ∧ first' = 0) ∨ (0 ≤ n ∧ (l.length : Int) < n ∧ i = 2 ∧ first' = 0)) := by
  by_cases h0 : n < 0
  · refine (ltr_below h n (by simpa using h0)).mono ?_
    rintro e w' ⟨rfl, rfl⟩
    exact ⟨2, _, 0, l, tg, lt, rfl, h, by omega, .inr (.inl ⟨h0, rfl, rfl⟩)⟩
  by_cases h1 : (l.length : Int) < n
  · refine (ltr_above h n (by omega) (by simpa using h1)).mono ?_
    rintro e w' ⟨rfl, h'⟩
    exact ⟨2, _, 0, l, tg, lt, rfl, h', by omega, .inr (.inr ⟨by omega, h1, rfl, rfl⟩)⟩
  by_cases h2 : n = 0
  · subst h2
    refine (ltr_first h _ (syn_dl bs sy)).mono ?_
    rintro e w' ⟨rfl, h'⟩
    exact ⟨0, _, 0, l, tg, lt, rfl, h', by omega, .inl ⟨by omega, by omega, rfl⟩⟩
  · have h3 : n = ((0 : Nat) : Int) + (1 : Nat) := by omega
    have h4 : l.length = 1 := by omega
    subst h3
    have h5 : (l.drop 1).map RC.b = [] := by rw [List.drop_eq_nil_of_le (by omega)]; rfl
    refine (ltr_ok h 1 (by omega) (by omega) (dl (encB 1 []) 16) (show replaceD (dl bs sy) (0 + 1) ((l.drop 1).map RC.b) = _ by rw [h5]; exact rep_dl bs sy)).mono ?_
    rintro e w' ⟨rfl, tg', h'⟩
    exact ⟨0, _, 0 + 1, _, tg', lt, rfl, h', by simp; omega, .inl ⟨by omega, by omega, rfl⟩⟩
end Go.Proofs.Ytplcpjngpkghmaa
