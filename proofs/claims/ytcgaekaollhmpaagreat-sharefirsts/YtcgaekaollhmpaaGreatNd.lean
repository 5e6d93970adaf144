/-
  The heap's Insert.
-/
import Derived.Test.YtcgaekaollhmpaaGreatNc
namespace Go.Proofs.YtcgaekaollhmpaaGreat
open Go.RowKit Go.Maps

set_option maxHeartbeats 1000000 in
theorem insert_form (hb n : Nat) (t : Int) (w : World) : Calls Tryz.prog 24 #[ptr hb, ktup n 0 t] w fun e w' => e = .returned (.tuple #[.int .i64 0, .int .i64 4]) ∧ Below w.heap.size w w' := by
  have H30 : Hid (∀ w, Calls Tryz.prog 43 #[.agg #[.int .u64 n, .int .u64 0, .int .i64 t]] w fun e w' => e = .returned (.bool false) ∧ Below w.heap.size w w') := fun w => formed_any n 0 t w
  unfold ktup ptr
  go_enter Tryz.func24, Tryz.ntmps24
  go_wp2_with (go_at_call 43; refine (H30.out _).mono ?_; rintro e w1 ⟨rfl, b1⟩; have y1 : Hid (Below w.heap.size w w1) := below_from (by go_grown) b1 (by simp))
  go_ret2
  exact ⟨rfl, y1.out⟩

/-- the cells of a new entry -/
def e0 (gv n d : Nat) (t : Int) : Nat → Value := fun i => if i = 0 then .int .i64 gv else if i = 1 then .int .u64 n else if i = 2 then .int .u64 d else if i = 3 then .int .i64 t else if i = 4 then .pointer none else if i = 5 then nS else if i = 6 then .int .i64 0 else .bool false
theorem e0_eq (gv n d : Nat) (t : Int) : (#[.int .i64 gv, .int .u64 n, .int .u64 d, .int .i64 t, .pointer none, nS, .int .i64 0, .bool false] : Array Value) = Array.ofFn (n := 8) fun i => e0 gv n d t i.val := rfl
structure Put0 (w W : World) (hb eb gv n d : Nat) (t : Int) (f : Nat → Value) : Prop where
  hp : Blk W hb 98 32 (fset f 0 (.int .i64 (gv + 1 : Nat)))
  en : Blk W eb 100 8 (e0 gv n d t)
  kp : Kp (· = hb) w W
  new : w.heap.size ≤ eb
structure Put1 (w W : World) (hb eb : Nat) (f : Nat → Value) (z : Value) (n d : Nat) (t : Int) : Prop where
  hp : Blk W hb 98 32 f
  en : W.heap[eb]? = some (.cells #[z, .int .u64 n, .int .u64 d, .int .i64 t, .pointer none, .slice none 0 0, .int .i64 0, .bool false] 100 (0, 0))
  kp : Below w.heap.size w W
  new : w.heap.size ≤ eb
set_option maxHeartbeats 1000000 in
set_option maxRecDepth 100000 in
theorem insert_raw (w : World) (hb gv n d : Nat) (t : Int) (f : Nat → Value) (R : Nat → World → Prop) (h : Hid (Blk w hb 98 32 f)) (hf : f 0 = .int .i64 gv) (hgv : gv < 1048576) (hd : d ≠ 0)
    (H : Hid (∀ W eb, Put0 w W hb eb gv n d t f → Calls Tryz.prog 44 #[.pointer (some ⟨hb, 0, none⟩), .pointer (some ⟨eb, 0, none⟩)] W fun e w3 => e = .returned (.tuple #[]) ∧ Hid (Calls Tryz.prog 45 #[.pointer (some ⟨hb, 0, none⟩), .pointer (some ⟨eb, 0, none⟩)] w3 fun e w4 => e = .returned (.tuple #[]) ∧
      Hid (Calls Tryz.prog 46 #[.pointer (some ⟨hb, 0, none⟩), .pointer (some ⟨eb, 0, none⟩)] w4 fun e w5 => e = .returned (.tuple #[]) ∧ w5.cell? ⟨eb, 0, none⟩ = some (.int .i64 gv) ∧ Hid (R eb w5))))) :
    Calls Tryz.prog 24 #[ptr hb, ktup n d t] w fun e w' => e = .returned (.tuple #[.int .i64 gv, .int .i64 0]) ∧ ∃ eb, w.heap.size ≤ eb ∧ R eb w' := by
  have H30 : Hid (∀ w, Calls Tryz.prog 43 #[.agg #[.int .u64 n, .int .u64 d, .int .i64 t]] w fun e w' => e = .returned (.bool true) ∧ Below w.heap.size w w') := fun w => by
    have := formed_any n d t w
    rw [show ((d : Int) != 0) = true by simp; omega] at this
    exact this
  have hlt := h.out.lt
  clear hd
  have g1 : (gv : Int) < 1048576 := by omega
  have HG : Hid (gv < 1048576) := hgv
  clear hgv
  unfold ktup ptr
  go_enter Tryz.func24, Tryz.ntmps24
  go_upto_region 3 with fail
  have K0 : (w.alloc (.cells #[.int .u64 n, .int .u64 d, .int .i64 t] 72)).heap[w.heap.size]? = some (.cells #[.int .u64 n, .int .u64 d, .int .i64 t] 72 (0, 0)) := new0
  have B0 : Below w.heap.size w (w.alloc (.cells #[.int .u64 n, .int .u64 d, .int .i64 t] 72)) := by go_grown
  have S0 : w.heap.size < (w.alloc (.cells #[.int .u64 n, .int .u64 d, .int .i64 t] 72)).heap.size := by simp
  generalize w.alloc (.cells #[.int .u64 n, .int .u64 d, .int .i64 t] 72) = W0 at *
  obtain ⟨k0, k1, k2⟩ := c3 K0
  go_upto_region 5 with (go_at_call 43; refine (H30.out _).mono ?_; rintro e w1 ⟨rfl, b1⟩; have K1 : Hid (w1.heap[w.heap.size]? = some (.cells #[.int .u64 n, .int .u64 d, .int .i64 t] 72 (0, 0))) := at_below b1 (Nat.le_refl _) K0; have B1 : Hid (Below w.heap.size w w1) := B0.trans (b1.mono B0.size); have S1 : Hid (w.heap.size < w1.heap.size) := Nat.lt_of_lt_of_le S0 b1.size; clear k0 k1 k2 K0 B0 b1 S0)
  have P1 : Hid (Blk w1 hb 98 32 f) := h.out.at (B1.out.block _ hlt)
  have p0 := P1.out.cell 0 (by decide)
  rw [hf] at p0
  have z0 : 0 ≤ (gv : Int) := by omega
  have HZ : ∃ z : Int, z = (gv : Int) := ⟨_, rfl⟩
  obtain ⟨z, hz⟩ := HZ
  rw [← hz] at p0 g1 z0 hf
  have HZ : Hid (z = (gv : Int)) := hz
  clear hz
  obtain ⟨k0, k1, k2⟩ := c3 K1.out
  go_upto_region 7 with fail
  go_region
  have HW : Hid (Put1 w (w1.alloc (.cells #[.int .i64 z, .int .u64 n, .int .u64 d, .int .i64 t, .pointer none, .slice none 0 0, .int .i64 0, .bool false] 100)).drew hb w1.heap.size f (.int .i64 z) n d t) := ⟨at_alloc P1.out, new0, by
    have b2 := B1.out.alloc B1.out.size (.cells #[.int .i64 z, .int .u64 n, .int .u64 d, .int .i64 t, .pointer none, .slice none 0 0, .int .i64 0, .bool false] 100)
    exact ⟨b2.os, b2.tape, b2.output, b2.size, b2.block⟩, Nat.le_of_lt S1.out⟩
  generalize (w1.alloc (.cells #[.int .i64 z, .int .u64 n, .int .u64 d, .int .i64 t, .pointer none, .slice none 0 0, .int .i64 0, .bool false] 100)).drew = W2 at *
  generalize w1.heap.size = eb at *
  clear k0 k1 k2 K1 B1 S1 P1 p0 H30
  have q0 := HW.out.hp.cell 0 (by decide)
  rw [hf] at q0
  have q1 := HW.out.hp.fz 0
  have HC : Hid (∀ W3, W3 = W2.setCell ⟨hb, 0, none⟩ (.int .i64 (z + 1)) → Put0 w W3 hb eb gv n d t f) := fun W3 e => by
    subst e
    have hne : hb ≠ eb := by have := HW.out.new; omega
    refine ⟨?_, ?_, ?_, HW.out.new⟩
    · have := HW.out.hp.set 0 (.int .i64 (z + 1))
      rw [HZ.out] at this ⊢
      exact this
    · have := HW.out.en
      rw [HZ.out] at this
      refine Blk.other ?_ _ _ hne
      unfold Blk
      rw [← e0_eq]
      exact this
    · exact (Kp.of_below (S := (· = hb)) HW.out.kp).trans (Kp.of_set (S := (· = hb)) _ ⟨hb, 0, none⟩ _ rfl) fun _ _ h => h
  have HN : Hid (w.heap.size ≤ eb) := HW.out.new
  go_upto_region 9 with fail
  have HD := H.out _ eb (HC.out _ rfl)
  generalize W2.setCell ⟨hb, 0, none⟩ (.int .i64 (z + 1)) = W3 at *
  clear q0 q1 HC HW H
  go_wp2_with (first | (go_at_call 44; refine HD.mono ?_; rintro e w3 ⟨rfl, H3⟩) | (go_at_call 45; refine H3.out.mono ?_; rintro e w4 ⟨rfl, H4⟩) | (go_at_call 46; refine H4.out.mono ?_; rintro e w5 ⟨rfl, h5, H5⟩))
  go_ret2
  exact ⟨rfl, eb, HN.out, H5.out⟩

/-- a heap with one entry -/
structure One (w : World) (hb eb n d : Nat) (t : Int) : Prop where
  hp : ∃ f m, Blk w hb 98 32 f ∧ f 1 = .map (some m) ∧ f 31 = ptr eb ∧ w.ownsMap Tryz.prog 3 pE m 1 (m0.put (.int .i64 (0 : Nat)) (.held eb))
  en : ∃ g, Blk w eb 100 8 g ∧ g 0 = .int .i64 (0 : Nat) ∧ g 1 = .int .u64 n ∧ g 2 = .int .u64 d ∧ g 3 = .int .i64 t
theorem insert_zero (w : World) (hb n d : Nat) (t : Int) (h : Blk w hb 98 32 zH) (hd : d ≠ 0) :
    Calls Tryz.prog 24 #[ptr hb, ktup n d t] w fun e w' => e = .returned (.tuple #[.int .i64 (0 : Nat), .int .i64 0]) ∧ ∃ eb, w.heap.size ≤ eb ∧ One w' hb eb n d t ∧ Kp (· = hb) w w' := by
  refine insert_raw w hb 0 n d t zH (fun eb w' => One w' hb eb n d t ∧ Kp (· = hb) w w') h rfl (by decide) hd ?_
  intro W eb P
  have hne : hb ≠ eb := by have := P.new; have := h.lt; omega
  refine (keep_none W hb eb 0 _ _ (by decide) P.hp rfl P.en rfl hne).mono ?_
  rintro e w3 ⟨rfl, m3, b3, k3⟩
  refine ⟨rfl, ?_⟩
  have n3 : Blk w3 eb 100 8 (e0 0 n d t) := blk_keep P.en k3 (fun e => hne e.symm)
  refine (raise_any w3 hb eb 0 0 none [] _ _ b3 n3 rfl (by decide) hne (Nat.zero_le _) (Fam.nil _)).mono ?_
  rintro e w4 ⟨rfl, v', R⟩
  refine ⟨rfl, ?_⟩
  refine (offer_none w4 hb eb _ R.hp rfl).mono ?_
  rintro e w5 ⟨rfl, b5, k5⟩
  have n5 := blk_keep R.en k5 (fun e => hne e.symm)
  refine ⟨rfl, n5.cell 0 (by decide), ⟨⟨_, W.heap.size, b5, rfl, rfl, ?_⟩, ⟨_, n5, rfl, rfl, rfl, rfl⟩⟩, ?_⟩
  · have hm3 : W.heap.size < w3.heap.size := m3.lt
    have m4 := keepMap m3 (R.kp.block W.heap.size hm3 (by
      rintro (h | h | h)
      · have := P.hp.lt; omega
      · have := P.en.lt; omega
      · cases h))
    exact keepMap m4 (k5.block W.heap.size m4.lt (fun e => by have := P.hp.lt; omega))
  · refine ((P.kp.trans k3 fun _ _ h => h).trans R.kp ?_).trans k5 fun _ _ h => h
    rintro k hk (h | h | h)
    · exact h
    · have := P.new; omega
    · cases h
end Go.Proofs.YtcgaekaollhmpaaGreat
