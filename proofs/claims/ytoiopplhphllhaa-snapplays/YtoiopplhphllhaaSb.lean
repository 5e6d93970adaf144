/-
  The checkpoint's encode.
-/
import Derived.Test.YtoiopplhphllhaaSa
namespace Go.Proofs.Ytoiopplhphllhaa
open Go.RowKit Go.Maps

theorem num88_len (n k : Nat) : (num8 n ++ num8 k).length = 16 := rfl
set_option maxHeartbeats 1000000 in
set_option maxRecDepth 100000 in
theorem encode_any (n : Nat) (hf : n < 9223372036854775808) (l : List RC) (q : Option Addr) (c m : Nat) (w : World) (hl : Hid (l.length = m)) (hm : m ≤ 16384) (hk : Hid (∀ r ∈ l, r.b.length ≤ 4096)) (hs : Hid (sumL (l.map RC.b) ≤ 524288)) (hP : Hid (Pcs w q l)) :
    Calls Try.prog 27 #[.int .i64 n, .slice q m c] w fun e w' => ∃ v, e = .returned v ∧ Own w' w.heap.size v (encB n (l.map RC.b)) ∧ Below w.heap.size w w' := by
  have hm1 : m < 9223372036854775808 := by omega
  go_enter Try.func27, Try.ntmps27
  go_wp2_with (go_at_call_of 45 (Value.int .i64 n); refine (num_out n hf w).mono ?_)
  rintro e w1 ⟨q1, c1, rfl, o1, b1⟩
  have O1 : Hid (Own w1 w.heap.size (.slice q1 8 c1) (num8 n)) := o1
  have B1 : Hid (Below w.heap.size w w1) := b1
  have N2 : Hid (Calls Try.prog 45 #[.int .i64 m] w1 fun e w' => ∃ q c, e = .returned (.slice q 8 c) ∧ Own w' w1.heap.size (.slice q 8 c) (num8 m) ∧ Below w1.heap.size w1 w') := num_out m hm1 w1
  clear o1 b1
  go_wp2_with (go_at_call 45; refine N2.out.mono ?_)
  rintro e w2 ⟨q2, c2, rfl, o2, b2⟩
  have O2 : Hid (Own w2 w.heap.size (.slice q1 8 c1) (num8 n)) := O1.out.keep b2
  have B2 : Hid (Below w.heap.size w w2) := below_from B1.out b2 B1.out.size
  have P2 : Hid (Lies w2 q2 (num8 m) ∧ (q2 = none → c2 = 0) ∧ (num8 m).length = 8) := own_parts o2
  clear o2 b2 N2 O1 B1
  go_wp2_with (at_builtin; refine append_bytes rfl _ _ rfl w.heap.size _ _ (num8 m) rfl O2.out q2 c2 8 rfl P2.out.2.2 P2.out.2.1 P2.out.1 (show 8 + 8 ≤ _ by decide) B2.out.size ?_)
  intro v3 w3 o3 b3
  have B3 : Hid (Below w.heap.size w w3) := B2.out.trans b3
  obtain ⟨q3, c3, rfl, l3, z3, -⟩ := o3.shape
  have F3 : Hid (Calls Try.prog 44 #[.slice q3 16 c3] w3 fun e w' => ∃ q c', e = .returned (.tuple #[.slice q 24 c', .int .i64 0]) ∧ Own w' w3.heap.size (.slice q 24 c') (Crc.frame (num8 n ++ num8 m)) ∧ Below w3.heap.size w3 w') := frame_any (num8 n ++ num8 m) q3 c3 w3 (show 16 ≤ 4096 by omega) l3 z3
  rw [num88_len]
  clear o3 b3 l3 z3 O2 B2 P2
  go_wp2_with (go_at_call 44; refine F3.out.mono ?_)
  rintro e w4 ⟨q4, c4, rfl, o4, b4⟩
  have B4 : Hid (Below w.heap.size w w4) := below_from B3.out b4 B3.out.size
  have O4 : Hid (Own w4 w.heap.size (.slice q4 24 c4) (encT n m ((l.map RC.b).take 0))) := by
    refine (?_ : Own w4 w.heap.size (.slice q4 24 c4) (encT n m ((l.map RC.b).take 0)))
    have := o4.low B3.out.size
    unfold encT
    simpa using this
  clear o4 b4 F3 B3
  go_wp2_with fail
  go_loopw [5, 23] (fun v i wr => ∃ (k : Nat) (q : Option Addr) (j c' : Nat), v = .slice q j c' ∧ i = .int .i64 k ∧ k ≤ m ∧ Own wr w.heap.size (.slice q j c') (encT n m ((l.map RC.b).take k)) ∧ Below w.heap.size w wr) (fun _ i _ => m - (intOf i).toNat)
  case atStart => exact ⟨0, q4, 24, c4, rfl, rfl, Nat.zero_le _, O4.out, B4.out⟩
  case round =>
    obtain ⟨k, q', j, c', rfl, rfl, hkn, ho, hb⟩ := hrel
    have HO : Hid (Own wr w.heap.size (.slice q' j c') (encT n m ((l.map RC.b).take k))) := ho
    have HB : Hid (Below w.heap.size w wr) := hb
    clear ho hb O4 B4
    by_cases hlt : k < m
    · obtain ⟨r, hr0⟩ : ∃ r, l[k]? = some r := ⟨l[k]'(by have := hl.out; omega), List.getElem?_eq_getElem _⟩
      have hne : l ≠ [] := by rintro rfl; have := hl.out; simp at this; omega
      obtain ⟨g, o, rfl, hrow⟩ := hP.out.row.resolve_left hne
      have h0 := hrow.keep HB.out (Nat.le_refl _) k r.v (by rw [List.getElem?_map, hr0]; rfl)
      have hok := (hP.out.keep HB.out).each r (List.mem_of_getElem? hr0)
      have hi : (k : Int) < (m : Int) := by omega
      have HR : Hid (r.b.length ≤ 4096) := hk.out r (List.mem_of_getElem? hr0)
      have HX : Hid (encT n m ((l.map RC.b).take (k + 1)) = encT n m ((l.map RC.b).take k) ++ Crc.frame r.b) := encT_snoc n m (l.map RC.b) k r.b (by rw [List.getElem?_map, hr0]; rfl)
      have F3 : Hid (Calls Try.prog 44 #[.slice r.a r.b.length r.c] wr fun e w' => ∃ q c', e = .returned (.tuple #[.slice q (r.b.length + 8 : Nat) c', .int .i64 0]) ∧ Own w' wr.heap.size (.slice q (r.b.length + 8 : Nat) c') (Crc.frame r.b) ∧ Below wr.heap.size wr w') := frame_any r.b r.a r.c wr HR.out hok.1 hok.2
      have HL : Hid ((encT n m ((l.map RC.b).take k)).length ≤ 24 + 524288 + 8 * 16384) := by
        refine (?_ : (encT n m ((l.map RC.b).take k)).length ≤ 24 + 524288 + 8 * 16384)
        rw [encT_len]
        have h1 := sum_take (l.map RC.b) k
        have h2 := hs.out
        have h3 : ((l.map RC.b).take k).length ≤ 16384 := by rw [List.length_take]; omega
        omega
      unfold RC.v at h0
      clear hr0 hok hrow
      go_wp2_with (go_at_call 44; refine F3.out.mono ?_)
      first | rintro e w3 q3 c3 rfl o3 b3 | rintro e w3 ⟨q3, c3, rfl, o3, b3⟩
      have O3 : Hid (Own w3 w.heap.size (.slice q' j c') (encT n m ((l.map RC.b).take k))) := HO.out.keep b3
      have B3 : Hid (Below w.heap.size w w3) := below_from HB.out b3 HB.out.size
      have P3 : Hid (Lies w3 q3 (Crc.frame r.b) ∧ (q3 = none → c3 = 0) ∧ (Crc.frame r.b).length = r.b.length + 8) := own_parts o3
      clear o3 b3 F3
      go_wp2_with (at_builtin; refine append_bytes rfl _ _ rfl w.heap.size _ _ (Crc.frame r.b) rfl O3.out q3 c3 (r.b.length + 8) rfl P3.out.2.2 P3.out.2.1 P3.out.1 ?_ B3.out.size ?_)
      · have h1 := HL.out
        have h2 := P3.out.2.2
        have h3 := HR.out
        omega
      intro v4 w4 o4 b4
      obtain ⟨q4, c4', rfl, -⟩ := o4.shape
      go_wp2_with fail
      refine ⟨⟨k + 1, q4, _, c4', rfl, by go_num, by omega, by rw [HX.out]; exact o4, B3.out.trans b4⟩, ?_⟩
      simp [intOf]; omega
    · have hi : ¬ (k : Int) < (m : Int) := by omega
      have HE : Hid (encT n m ((l.map RC.b).take k) = encB n (l.map RC.b)) := by
        refine (?_ : _ = _)
        have := hl.out
        rw [List.take_of_length_le (by rw [List.length_map]; omega)]
        unfold encB
        rw [List.length_map, this]
        rfl
      go_wp2_with fail
      go_ret
      exact ⟨_, rfl, by have := HO.out; rw [HE.out] at this; exact this, HB.out⟩
end Go.Proofs.Ytoiopplhphllhaa
