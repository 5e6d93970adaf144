/-
  The journal's numberOut, encode, replace.
-/
import Derived.Test.YtplcpjngpkghmaaJa
import Derived.Deep.OwnRows
namespace Go.Proofs.Ytplcpjngpkghmaa
open Go.RowKit Go.Maps

theorem make8 (w : World) : (Instr.makeSlice 31 (.int .i64 8) (.int .i64 8)).run Try.prog w = .ok (.slice (some ⟨w.heap.size, 0, none⟩) 8 8) (w.alloc (.cells #[.int .u8 0, .int .u8 0, .int .u8 0, .int .u8 0, .int .u8 0, .int .u8 0, .int .u8 0, .int .u8 0] 5)) := by
  have h := run_make_row' (P := Try.prog) 31 5 (.int .u8 0) 1 Try.underlying31 info5 rfl .i64 .i64 8 (by omega) (by omega) w
  rw [show ((8 : Nat) : Int) = 8 from rfl] at h
  rw [h, show madeCells #[Value.int .u8 0] 8 = #[.int .u8 0, .int .u8 0, .int .u8 0, .int .u8 0, .int .u8 0, .int .u8 0, .int .u8 0, .int .u8 0] by kernel_rfl]
/-- eight bytes of a number -/
def num8 (n : Nat) : List UInt8 := [UInt8.ofNat n, UInt8.ofNat (n / 256), UInt8.ofNat (n / 65536), UInt8.ofNat (n / 16777216), UInt8.ofNat (n / 4294967296), UInt8.ofNat (n / 1099511627776), UInt8.ofNat (n / 281474976710656), UInt8.ofNat (n / 72057594037927936)]
def num8C (n : Nat) : Array Value := #[.int .u8 ((n : Int) % 256), .int .u8 ((n : Int) / 256 % 256), .int .u8 ((n : Int) / 65536 % 256), .int .u8 ((n : Int) / 16777216 % 256), .int .u8 ((n : Int) / 4294967296 % 256), .int .u8 ((n : Int) / 1099511627776 % 256), .int .u8 ((n : Int) / 281474976710656 % 256), .int .u8 ((n : Int) / 72057594037927936)]
theorem byt (k : Nat) (z : Int) (h : z = ((k % 256 : Nat) : Int)) : Value.int .u8 z = .int .u8 ((UInt8.ofNat k).toNat : Int) := by rw [UInt8.toNat_ofNat', h]
theorem num8C_eq {n : Nat} (hn : n < 9223372036854775808) : (num8C n).toList = bv (num8 n) := by
  unfold num8C num8 bv
  simp only [List.map_cons, List.map_nil]
  rw [byt n ((n : Int) % 256) (by omega), byt (n / 256) ((n : Int) / 256 % 256) (by omega), byt (n / 65536) ((n : Int) / 65536 % 256) (by omega), byt (n / 16777216) ((n : Int) / 16777216 % 256) (by omega), byt (n / 4294967296) ((n : Int) / 4294967296 % 256) (by omega), byt (n / 1099511627776) ((n : Int) / 1099511627776 % 256) (by omega), byt (n / 281474976710656) ((n : Int) / 281474976710656 % 256) (by omega), byt (n / 72057594037927936) ((n : Int) / 72057594037927936) (by omega)]
theorem own_num {w : World} {n : Nat} (hn : n < 9223372036854775808) : Own (w.alloc (.cells (num8C n) 5)) w.heap.size (.slice (some ⟨w.heap.size, 0, none⟩) 8 8) (num8 n) := by
  refine ⟨by rw [bv_length, Nat.mul_one], .inr ⟨w.heap.size, 8, num8C n, rfl, Nat.le_refl _, new0, Nat.le_refl _, by decide, rfl, ?_⟩⟩
  rw [num8C_eq hn]
  rfl
set_option maxHeartbeats 1000000 in
set_option maxRecDepth 100000 in
theorem num_out (n : Nat) (hn : n < 9223372036854775808) (w : World) :
    Calls Try.prog 69 #[.int .i64 n] w fun e w' => ∃ q c, e = .returned (.slice q 8 c) ∧ Own w' w.heap.size (.slice q 8 c) (num8 n) ∧ Below w.heap.size w w' := by
  have hmk := make8
  go_enter Try.func69, Try.ntmps69
  go_wp2_with fail
  go_rounds 9
  go_ret
  exact ⟨_, _, rfl, own_num hn, (Below.refl _ w).alloc (Nat.le_refl _) _⟩

/-- a record as it lies -/
structure RC where
  b : List UInt8
  a : Option Addr
  c : Nat
def RC.v (r : RC) : Value := .slice r.a r.b.length r.c
def RowV (w : World) (g o : Nat) (xs : List Value) : Prop := ∀ (k : Nat) (u : Value), xs[k]? = some u → w.cell? ⟨g, o + k, none⟩ = some u
theorem RowV.keep {w w1 : World} {g o B : Nat} {xs : List Value} (b : Below B w w1) (hB : w.heap.size ≤ B) (h : RowV w g o xs) : RowV w1 g o xs := fun k u hu => by
  have h0 := h k u hu
  exact (b.cell (Nat.lt_of_lt_of_le (block_lt_of_cell h0) hB)).trans h0
structure RcOk (w : World) (r : RC) : Prop where
  hL : Lies w r.a r.b
  hz : r.a = none → r.c = 0
  hl : r.b.length ≤ 4080
theorem RcOk.keep {w w1 : World} {r : RC} (h : RcOk w r) (b : Below w.heap.size w w1) : RcOk w1 r := ⟨h.hL.keep b (Nat.le_refl _), h.hz, h.hl⟩
/-- the log's file -/
def encB (first : Nat) (recs : List (List UInt8)) : List UInt8 := Crc.frame (num8 first) ++ recs.flatMap Crc.frame
theorem encB_snoc (first : Nat) (l : List RC) (k : Nat) (r : RC) (h : l[k]? = some r) : encB first ((l.map RC.b).take (k + 1)) = encB first ((l.map RC.b).take k) ++ Crc.frame r.b := by
  obtain ⟨hk, rfl⟩ := List.getElem?_eq_some_iff.1 h
  unfold encB
  rw [List.take_succ_eq_append_getElem (by rw [List.length_map]; exact hk), List.flatMap_append, List.append_assoc]
  simp
theorem encB_len (first : Nat) : ∀ (l : List RC), (∀ r ∈ l, r.b.length ≤ 4080) → (encB first (l.map RC.b)).length ≤ 16 + 4088 * l.length
  | [], _ => by unfold encB; simp [Crc.frame_length]; exact Nat.le_refl _
  | r :: l, h => by
    have ih := encB_len first l fun r hr => h r (List.mem_cons_of_mem _ hr)
    have h0 := h r (List.mem_cons_self ..)
    unfold encB at ih ⊢
    simp only [List.map_cons, List.flatMap_cons, List.length_append, Crc.frame_length, List.length_cons] at ih ⊢
    omega

set_option maxHeartbeats 1000000 in
set_option maxRecDepth 100000 in
theorem encode_some (first : Nat) (hf : first < 9223372036854775808) (l : List RC) (g o c n : Nat) (w : World) (hl : Hid (l.length = n)) (hn : n ≤ 1048576) (hr : Hid (RowV w g o (l.map RC.v))) (hk : Hid (∀ r ∈ l, RcOk w r)) :
    Calls Try.prog 60 #[.int .i64 first, .slice (some ⟨g, o, none⟩) n c] w fun e w' => ∃ v, e = .returned v ∧ Own w' w.heap.size v (encB first (l.map RC.b)) ∧ Below w.heap.size w w' := by
  have N8 : Hid ((num8 first).length = 8) := rfl
  go_enter Try.func60, Try.ntmps60
  go_wp2_with (go_at_call 69; refine (num_out first hf w).mono ?_)
  rintro e w1 ⟨q1, c1, rfl, o1, b1⟩
  have F1 : Hid (Calls Try.prog 43 #[.slice q1 8 c1] w1 fun e w' => ∃ q c', e = .returned (.tuple #[.slice q 16 c', .int .i64 0]) ∧ Own w' w1.heap.size (.slice q 16 c') (Crc.frame (num8 first)) ∧ Below w1.heap.size w1 w') := frame_any (num8 first) q1 c1 w1 (show 8 ≤ 4096 by omega) (own_parts o1).1 (own_parts o1).2.1
  have B1 : Hid (Below w.heap.size w w1) := b1
  clear o1 b1
  go_wp2_with (go_at_call 43; refine F1.out.mono ?_)
  rintro e w2 ⟨q2, c2, rfl, o2, b2⟩
  have B2 : Hid (Below w.heap.size w w2) := below_from B1.out b2 B1.out.size
  have O2 : Hid (Own w2 w.heap.size (.slice q2 16 c2) (encB first ((l.map RC.b).take 0))) := by
    refine (?_ : Own w2 w.heap.size (.slice q2 16 c2) (encB first ((l.map RC.b).take 0)))
    have := o2.low B1.out.size
    unfold encB
    simpa using this
  clear o2 b2 F1 B1
  go_wp2_with fail
  go_loopw [5, 19] (fun v i wr => ∃ (k : Nat) (q : Option Addr) (j c' : Nat), v = .slice q j c' ∧ i = .int .i64 k ∧ k ≤ n ∧ Own wr w.heap.size (.slice q j c') (encB first ((l.map RC.b).take k)) ∧ Below w.heap.size w wr) (fun _ i _ => n - (intOf i).toNat)
  case atStart => exact ⟨0, q2, 16, c2, rfl, rfl, Nat.zero_le _, O2.out, B2.out⟩
  case round =>
    obtain ⟨k, q, j, c', rfl, rfl, hkn, ho, hb⟩ := hrel
    have HO : Hid (Own wr w.heap.size (.slice q j c') (encB first ((l.map RC.b).take k))) := ho
    have HB : Hid (Below w.heap.size w wr) := hb
    clear ho hb O2 B2
    by_cases hlt : k < n
    · obtain ⟨r, hr0⟩ : ∃ r, l[k]? = some r := ⟨l[k]'(by have := hl.out; omega), List.getElem?_eq_getElem _⟩
      have h0 := hr.out.keep HB.out (Nat.le_refl _) k r.v (by rw [List.getElem?_map, hr0]; rfl)
      have hok := (hk.out r (List.mem_of_getElem? hr0)).keep HB.out
      have hi : (k : Int) < (n : Int) := by omega
      have HX : Hid (encB first ((l.map RC.b).take (k + 1)) = encB first ((l.map RC.b).take k) ++ Crc.frame r.b) := encB_snoc first l k r hr0
      have F3 : Hid (Calls Try.prog 43 #[.slice r.a r.b.length r.c] wr fun e w' => ∃ q c', e = .returned (.tuple #[.slice q (r.b.length + 8 : Nat) c', .int .i64 0]) ∧ Own w' wr.heap.size (.slice q (r.b.length + 8 : Nat) c') (Crc.frame r.b) ∧ Below wr.heap.size wr w') := frame_any r.b r.a r.c wr (by have := hok.hl; omega) hok.hL hok.hz
      have HL : Hid ((encB first ((l.map RC.b).take k)).length ≤ 16 + 4088 * 1048576) := by
        rw [← List.map_take]
        refine Nat.le_trans (encB_len first (l.take k) fun r hr => (hk.out r (List.mem_of_mem_take hr)).hl) ?_
        have : (l.take k).length ≤ 1048576 := by rw [List.length_take]; omega
        omega
      have HR : Hid (r.b.length ≤ 4080) := hok.hl
      unfold RC.v at h0
      clear hr0 hok
      go_wp2_with (go_at_call 43; refine F3.out.mono ?_)
      first | rintro e w3 q3 c3 rfl o3 b3 | rintro e w3 ⟨q3, c3, rfl, o3, b3⟩
      have O3 : Hid (Own w3 w.heap.size (.slice q j c') (encB first ((l.map RC.b).take k))) := HO.out.keep b3
      have B3 : Hid (Below w.heap.size w w3) := below_from HB.out b3 HB.out.size
      have P3 : Hid (Lies w3 q3 (Crc.frame r.b) ∧ (q3 = none → c3 = 0) ∧ (Crc.frame r.b).length = r.b.length + 8) := own_parts o3
      clear o3 b3 F3
      go_wp2_with (at_builtin; refine append_bytes rfl _ _ rfl w.heap.size _ _ (Crc.frame r.b) rfl O3.out q3 c3 (r.b.length + 8) rfl P3.out.2.2 P3.out.2.1 P3.out.1 ?_ B3.out.size ?_)
      · have h1 := HL.out
        have h2 := P3.out.2.2
        have h3 := HR.out
        omega
      intro v4 w4 o4 b4
      obtain ⟨q4, c4', rfl, -⟩ := o4.shape
      go_wp2_with fail
      refine ⟨⟨k + 1, q4, _, c4', rfl, by go_num, by omega, by rw [HX.out]; exact o4, B3.out.trans b4⟩, ?_⟩
      simp [intOf]; omega
    · have hi : ¬ (k : Int) < (n : Int) := by omega
      have HE : Hid (encB first ((l.map RC.b).take k) = encB first (l.map RC.b)) := by
        refine (?_ : _ = _)
        rw [List.take_of_length_le (by rw [List.length_map]; have := hl.out; omega)]
      go_wp2_with fail
      go_ret
      exact ⟨_, rfl, by have := HO.out; rw [HE.out] at this; exact this, HB.out⟩
end Go.Proofs.Ytplcpjngpkghmaa
