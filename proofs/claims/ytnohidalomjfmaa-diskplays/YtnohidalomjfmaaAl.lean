/-
  The law's 'all' and 'few'.
-/
import Derived.Test.YtnohidalomjfmaaStl
namespace Go.Proofs.Ytnohidalomjfmaa
open Go.RowKit Go.Maps

theorem Both.keep {w0 w w' : World} {pb rb : Nat} {D : DK} (h : Both w0 w pb rb D) (b : Below w.heap.size w w') : Both w0 w' pb rb D := by
  obtain ⟨tg, rt, h⟩ := h
  exact ⟨tg, rt, h.keep b⟩
theorem both_below {w0 w : World} {pb rb : Nat} {D : DK} (h : Both w0 w pb rb D) : Below w0.heap.size w0 w := by obtain ⟨_, _, h⟩ := h; exact h.b
theorem list_b1 {w0 w : World} {pb rb : Nat} {D : DK} (h : Both w0 w pb rb D) : Calls Try.prog 22 #[.pointer (some ⟨pb, 0, none⟩)] w fun e w' => ∃ v, e = .returned v ∧ OwnS w' w.heap.size v (listD D) ∧ Below w.heap.size w w' := by
  obtain ⟨_, _, h⟩ := h; exact list_any h.d
theorem list_b2 {w0 w : World} {pb rb : Nat} {D : DK} (h : Both w0 w pb rb D) : Calls Try.prog 34 #[.pointer (some ⟨rb, 0, none⟩)] w fun e w' => ∃ v, e = .returned v ∧ OwnS w' w.heap.size v (listD D) ∧ Below w.heap.size w w' := by
  obtain ⟨_, _, h⟩ := h; exact rlist_any h.r
theorem list_b {w0 w : World} {pb rb : Nat} {D : DK} (h : Both w0 w pb rb D) : (listD D).length ≤ 64 := by
  obtain ⟨_, _, h⟩ := h; exact list_len h.r
theorem read_b {w0 w : World} {pb rb : Nat} {D : DK} (h : Both w0 w pb rb D) (s : List UInt8) : (readD D s).2.length ≤ 1048576 := by
  obtain ⟨_, _, h⟩ := h; exact read_len h.r s
theorem read_b1 {w0 w : World} {pb rb : Nat} {D : DK} (h : Both w0 w pb rb D) (s : List UInt8) (hs : s.length ≤ maxLen) : Calls Try.prog 19 #[.pointer (some ⟨pb, 0, none⟩), .string ⟨⟨s⟩⟩] w fun e w' => ∃ q c, e = .returned (.tuple #[.slice q (readD D s).2.length c, .int .i64 (readD D s).1]) ∧ Lies w' q (readD D s).2 ∧ Below w.heap.size w w' := by
  obtain ⟨_, _, h⟩ := h
  refine (read_any h.d ⟨⟨s⟩⟩ hs).mono ?_
  rintro e w' ⟨v, rfl, o, b⟩
  obtain ⟨q, c, rfl, hL, -, -⟩ := o.shape
  exact ⟨q, c, rfl, hL, b⟩
theorem read_b2 {w0 w : World} {pb rb : Nat} {D : DK} (h : Both w0 w pb rb D) (s : List UInt8) : Calls Try.prog 31 #[.pointer (some ⟨rb, 0, none⟩), .string ⟨⟨s⟩⟩] w fun e w' => ∃ a c, e = .returned (.tuple #[.slice a (readD D s).2.length c, .int .i64 (readD D s).1]) ∧ Lies w a (readD D s).2 ∧ w' = w := by
  obtain ⟨_, _, h⟩ := h; exact rread_any h.r s
/-- a crash of the program's disk -/
theorem rst_b1 {w0 w : World} {pb rb : Nat} {D : DK} (h : Both w0 w pb rb D) : Calls Try.prog 18 #[.pointer (some ⟨pb, 0, none⟩), .slice (some ⟨w.heap.size, 0, none⟩) 2 2] (w.alloc (.cells #[.int .u8 200, .int .u8 3] 5)) fun e w' => e = .returned (.tuple #[]) ∧ ∃ tg rt, Two w0 w' pb rb (restartD D [200, 3]) D tg rt := by
  obtain ⟨tg, rt, h⟩ := h
  have b : Below w.heap.size w (w.alloc (.cells #[.int .u8 200, .int .u8 3] 5)) := (Below.refl _ w).alloc (Nat.le_refl _) _
  have hr : Row (w.alloc (.cells #[.int .u8 200, .int .u8 3] 5)) w.heap.size 0 [200, 3] := by
    obtain ⟨a0, a1⟩ := c2 (new0 (w := w) (o := .cells #[.int .u8 200, .int .u8 3] 5))
    intro k x hx
    match k, hx with
    | 0, hx => cases hx; exact a0
    | 1, hx => cases hx; exact a1
  refine (restart_any (h.keep b).d [200, 3] (some ⟨w.heap.size, 0, none⟩) 2 2 rfl (Nat.le_refl _) (.inr ⟨_, 0, rfl, hr, by simp, no_of fun e => Nat.lt_irrefl _ (h.d.lt e)⟩)).mono ?_
  rintro e w' ⟨rfl, d, st⟩
  exact ⟨rfl, tg, rt, (h.keep b).left d st⟩
theorem rst_b2 {w0 w : World} {pb rb : Nat} {D E : DK} (h : ∃ tg rt, Two w0 w pb rb E D tg rt) : Calls Try.prog 32 #[.pointer (some ⟨rb, 0, none⟩), .slice (some ⟨w.heap.size, 0, none⟩) 2 2] (w.alloc (.cells #[.int .u8 200, .int .u8 3] 5)) fun e w' => e = .returned (.tuple #[]) ∧ ∃ tg rt, Two w0 w' pb rb E (restartD D [200, 3]) tg rt := by
  obtain ⟨tg, rt, h⟩ := h
  have b : Below w.heap.size w (w.alloc (.cells #[.int .u8 200, .int .u8 3] 5)) := (Below.refl _ w).alloc (Nat.le_refl _) _
  have hr : Row (w.alloc (.cells #[.int .u8 200, .int .u8 3] 5)) w.heap.size 0 [200, 3] := by
    obtain ⟨a0, a1⟩ := c2 (new0 (w := w) (o := .cells #[.int .u8 200, .int .u8 3] 5))
    intro k x hx
    match k, hx with
    | 0, hx => cases hx; exact a0
    | 1, hx => cases hx; exact a1
  refine (rrestart_any (h.keep b).r [200, 3] (some ⟨w.heap.size, 0, none⟩) 2 2 rfl (by omega) (.inr ⟨_, 0, rfl, hr, by simp, no_of fun e => Nat.lt_irrefl _ (h.r.lt e)⟩)).mono ?_
  rintro e w' ⟨rfl, rt', d, st⟩
  exact ⟨rfl, tg, rt', (h.keep b).right d st⟩
theorem name_b {w0 w : World} {pb rb : Nat} {D : DK} (h : Both w0 w pb rb D) {k : Nat} {x : List UInt8} (hx : (listD D)[k]? = some x) : x.length ≤ maxLen := by
  obtain ⟨tg, rt, h⟩ := h
  obtain ⟨mb, l, z, h⟩ := h.d
  have hm := List.mem_of_getElem? hx
  unfold listD at hm
  split at hm
  · cases hm
  · rw [h.fs, List.map_map] at hm
    obtain ⟨f, hf, rfl⟩ := List.mem_map.1 hm
    exact name_len h.mp hf

set_option maxHeartbeats 2000000 in
set_option maxRecDepth 100000 in
theorem all_any {w0 w : World} {pb rb : Nat} {D : DK} (h : Hid (Both w0 w pb rb D)) :
    Calls Try.prog 15 #[.pointer (some ⟨pb, 0, none⟩), .pointer (some ⟨rb, 0, none⟩)] w fun e w' => e = .returned (.bool true) ∧ Below w0.heap.size w0 w' := by
  go_enter Try.func15, Try.ntmps15
  go_wp2_with fail
  go_loopw [5] (fun i wr => ∃ k : Nat, k ≤ 2 ∧ i = .int .i64 k ∧ ∃ D, Both w0 wr pb rb D) (fun i _ => 2 - (intOf i).toNat)
  case atStart => exact ⟨0, by omega, rfl, D, h.out⟩
  case round =>
    obtain ⟨k, hk, rfl, D1, hD⟩ := hrel
    have HD : Hid (Both w0 wr pb rb D1) := hD
    clear hD h
    by_cases hlt : k < 2
    · have hi : (k : Int) < 2 := by omega
      go_wp2_with (go_at_call 34; refine (list_b2 HD.out).mono ?_)
      first | rintro e w1 v1 rfl o1 b1 | rintro e w1 ⟨v1, rfl, o1, b1⟩
      obtain ⟨z1, z2, z3, rfl⟩ := sl_own o1
      have H1 : Hid (Both w0 w1 pb rb D1) := HD.out.keep b1
      have O1 : Hid (OwnS w1 wr.heap.size (.slice z1 z2 z3) (listD D1)) := o1
      clear o1 b1 HD
      go_wp2_with (go_at_call 22; refine (list_b1 H1.out).mono ?_)
      first | rintro e w2 v2 rfl o2 b2 | rintro e w2 ⟨v2, rfl, o2, b2⟩
      have H2 : Hid (Both w0 w2 pb rb D1) := H1.out.keep b2
      have O2 : Hid (OwnS w2 wr.heap.size (.slice z1 z2 z3) (listD D1)) := O1.out.keep b2
      have H33 : Hid (Calls Try.prog 33 #[v2, .slice z1 z2 z3] w2 fun e w' => e = .returned (.bool true) ∧ Below w2.heap.size w2 w') := sameT o2 O2.out (by have := list_b H2.out; omega)
      obtain ⟨y1, y2, y3, rfl⟩ := sl_own o2
      clear o2 b2 H1 O1
      go_wp2_with (go_at_call 33; refine H33.out.mono ?_)
      first | rintro e w3 rfl b3 | rintro e w3 ⟨rfl, b3⟩
      have H3 : Hid (Both w0 w3 pb rb D1) := H2.out.keep b3
      have O3 : Hid (OwnS w3 wr.heap.size (.slice z1 z2 z3) (listD D1)) := O2.out.keep b3
      clear b3 H2 O2 H33
      obtain ⟨N, hN, hN64⟩ : ∃ N, N = (listD D1).length ∧ N ≤ 64 := ⟨_, rfl, list_b H3.out⟩
      have hz2 : z2 = N := by
        rcases rows_own O3.out with ⟨e, h0⟩ | ⟨g, c, e, _⟩
        · cases e; rw [hN, h0]; rfl
        · cases e; exact hN.symm
      subst hz2
      have HN : Hid (z2 = (listD D1).length) := hN
      clear hN
      go_wp2_with fail
      go_loopw [7] (fun i wv => ∃ j : Nat, j ≤ z2 ∧ i = .int .i64 j ∧ Below w3.heap.size w3 wv) (fun i _ => z2 - (intOf i).toNat)
      case atStart => exact ⟨0, Nat.zero_le _, rfl, Below.refl _ _⟩
      case round =>
        obtain ⟨j, hj, rfl, hb⟩ := hrel
        have HB : Hid (Below w3.heap.size w3 wr) := hb
        have H4 : Hid (Both w0 wr pb rb D1) := H3.out.keep hb
        have O4 := O3.out.keep hb
        clear hb
        by_cases hjl : j < z2
        · obtain ⟨x, hx⟩ : ∃ x, (listD D1)[j]? = some x := ⟨(listD D1)[j]'(by have := HN.out; omega), List.getElem?_eq_getElem _⟩
          obtain ⟨g, hz1, hcx⟩ : ∃ g, z1 = some ⟨g, 0, none⟩ ∧ wr.cell? ⟨g, j, none⟩ = some (.string ⟨⟨x⟩⟩) := by
            rcases rows_own O4 with ⟨e, h0⟩ | ⟨g, c, e, hr⟩
            · have := HN.out; rw [h0] at this; simp at this; omega
            · cases e
              have hxe : ((listD D1).map encStr)[j]? = some (.string ⟨⟨x⟩⟩) := by rw [List.getElem?_map, hx]; rfl
              have h0 := hr j _ hxe
              rw [Nat.zero_add] at h0
              exact ⟨g, rfl, h0⟩
          subst hz1
          have HX : Hid (x.length ≤ maxLen) := name_b H4.out hx
          have hi2 : (j : Int) < (z2 : Int) := by omega
          have H19 : Hid (Calls Try.prog 19 #[.pointer (some ⟨pb, 0, none⟩), .string ⟨⟨x⟩⟩] wr fun e w' => ∃ q c, e = .returned (.tuple #[.slice q (readD D1 x).2.length c, .int .i64 (readD D1 x).1]) ∧ Lies w' q (readD D1 x).2 ∧ Below wr.heap.size wr w') := read_b1 H4.out x HX.out
          clear hx O4
          go_wp2_with (go_at_call 19; refine H19.out.mono ?_)
          first | rintro e w5 q5 c5' rfl l5 b5 | rintro e w5 ⟨q5, c5', rfl, l5, b5⟩
          have H5 : Hid (Both w0 w5 pb rb D1) := H4.out.keep b5
          have L5 : Hid (Lies w5 q5 (readD D1 x).2) := l5
          have hcx5 := (b5.cell (block_lt_of_cell hcx)).trans hcx
          have B5 : Hid (Below w3.heap.size w3 w5) := below_from HB.out b5 HB.out.size
          have H31 : Hid (Calls Try.prog 31 #[.pointer (some ⟨rb, 0, none⟩), .string ⟨⟨x⟩⟩] w5 fun e w' => ∃ a c, e = .returned (.tuple #[.slice a (readD D1 x).2.length c, .int .i64 (readD D1 x).1]) ∧ Lies w5 a (readD D1 x).2 ∧ w' = w5) := read_b2 H5.out x
          have HLN : Hid ((readD D1 x).2.length ≤ 1048576) := read_b H5.out x
          clear l5 b5 H19 hcx
          generalize (readD D1 x).2 = R at *
          generalize (readD D1 x).1 = code at *
          go_wp2_with (go_at_call 31; refine H31.out.mono ?_)
          first | rintro e w6 q6 c6 rfl l6 rfl | rintro e w6 ⟨q6, c6, rfl, l6, rfl⟩
          have H20 : Hid (Calls Try.prog 20 #[.slice q5 R.length c5', .slice q6 R.length c6] w6 fun e w' => e = .returned (.bool true) ∧ Below w6.heap.size w6 w') := by
            have := same_any R R q5 q6 c5' c6 w6 (by have := HLN.out; omega) L5.out l6
            rw [decide_eq_true rfl] at this
            exact this
          clear l6 H31
          go_wp2_with (go_at_call 20; refine H20.out.mono ?_)
          first | rintro e w7 rfl b7 | rintro e w7 ⟨rfl, b7⟩
          go_wp2_with fail
          refine ⟨⟨j + 1, by omega, by go_num, below_from B5.out b7 B5.out.size⟩, ?_⟩
          simp [intOf]; omega
        · have hi2 : ¬ (j : Int) < (z2 : Int) := by omega
          clear O4
          have H18 : Hid (Calls Try.prog 18 #[.pointer (some ⟨pb, 0, none⟩), .slice (some ⟨wr.heap.size, 0, none⟩) 2 2] (wr.alloc (.cells #[.int .u8 200, .int .u8 3] 5)) fun e w' => e = .returned (.tuple #[]) ∧ ∃ tg rt, Two w0 w' pb rb (restartD D1 [200, 3]) D1 tg rt) := rst_b1 H4.out
          go_wp2_with (go_at_call 18; refine H18.out.mono ?_)
          first | rintro e w5 rfl tg5 rt5 h5 | rintro e w5 ⟨rfl, tg5, rt5, h5⟩
          have H32 : Hid (Calls Try.prog 32 #[.pointer (some ⟨rb, 0, none⟩), .slice (some ⟨w5.heap.size, 0, none⟩) 2 2] (w5.alloc (.cells #[.int .u8 200, .int .u8 3] 5)) fun e w' => e = .returned (.tuple #[]) ∧ ∃ tg rt, Two w0 w' pb rb (restartD D1 [200, 3]) (restartD D1 [200, 3]) tg rt) := rst_b2 ⟨tg5, rt5, h5⟩
          clear h5 H18
          go_wp2_with (go_at_call 32; refine H32.out.mono ?_)
          first | rintro e w6 rfl tg6 rt6 h6 | rintro e w6 ⟨rfl, tg6, rt6, h6⟩
          go_wp2_with fail
          refine ⟨⟨k + 1, by omega, by go_num, _, tg6, rt6, h6⟩, ?_⟩
          simp [intOf]; omega
    · have hi : ¬ (k : Int) < 2 := by omega
      go_wp2_with fail
      go_ret
      exact ⟨rfl, both_below HD.out⟩
end Go.Proofs.Ytnohidalomjfmaa
