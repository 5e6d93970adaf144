/-
  FibNil's law.
-/
import Derived.Test.YtmcmldlnmmbbgaaNf
namespace Go.Proofs.Ytmcmldlnmmbbgaa
open Go.RowKit Go.Maps

/-- within the law: the key's box, and what is below it -/
structure Stn (w W : World) (n d : Nat) (t : Int) : Prop where
  k : W.heap[w.heap.size]? = some (.cells #[.int .u64 n, .int .u64 d, .int .i64 t] 37 (0, 0))
  b : Below w.heap.size w W
theorem Stn.next {w W W' : World} {n d : Nat} {t : Int} (h : Stn w W n d t) (b : Below W.heap.size W W') : Stn w W' n d t := ⟨at_below b (Nat.le_refl _) h.k, h.b.trans (b.mono h.b.size)⟩
theorem Stn.al {w W : World} {n d : Nat} {t : Int} (h : Stn w W n d t) (o : Obj) : Stn w (W.alloc o) n d t := h.next ((Below.refl _ W).alloc (Nat.le_refl _) _)
theorem Stn.c {w W : World} {n d : Nat} {t : Int} (h : Stn w W n d t) : W.cell? ⟨w.heap.size, 0, none⟩ = some (.int .u64 n) ∧ W.cell? ⟨w.heap.size, 1, none⟩ = some (.int .u64 d) ∧ W.cell? ⟨w.heap.size, 2, none⟩ = some (.int .i64 t) := c3 h.k

set_option maxHeartbeats 2000000 in
theorem fnil_law (n d : Nat) (t x : Int) (w : World) : Calls Try.prog 7 #[.agg #[.int .u64 n, .int .u64 d, .int .i64 t], .int .i64 x] w fun e w' => e = .returned (.bool true) ∧ Below w.heap.size w w' := by
  have H8 : Hid (∀ w, Calls Try.prog 8 #[] w fun e w' => e = .returned (.bool true) ∧ Below w.heap.size w w') := awake_any
  have H9 : Hid (∀ w, Calls Try.prog 9 #[] w fun e w' => e = .returned (.pointer (some ⟨w.heap.size, 0, none⟩)) ∧ Below w.heap.size w w') := fun w => (new_at w).mono fun e w' h => ⟨h.1, by rw [h.2]; go_grown⟩
  have H14 : Hid (∀ w, Calls Try.prog 14 #[.pointer none, .agg #[.int .u64 n, .int .u64 d, .int .i64 t]] w fun e w' => e = .returned (.tuple #[.int .i64 0, .int .i64 10]) ∧ Below w.heap.size w w') := insert_nil n d t
  have H21 : Hid (∀ v w, Calls Try.prog 21 #[.pointer none, .pointer v] w fun e w' => e = .returned (.tuple #[.int .i64 0, .int .i64 10]) ∧ Below w.heap.size w w') := meld_nil1
  have H21b : Hid (∀ b w, Calls Try.prog 21 #[.pointer (some ⟨b, 0, none⟩), .pointer none] w fun e w' => e = .returned (.tuple #[.int .i64 0, .int .i64 10]) ∧ Below w.heap.size w w') := meld_nil2
  have H18 : Hid (∀ w, Calls Try.prog 18 #[.pointer none, .int .i64 x] w fun e w' => e = .returned (.tuple #[.agg #[.int .u64 0, .int .u64 0, .int .i64 0], .int .i64 3]) ∧ Below w.heap.size w w') := get_nil x
  have H20 : Hid (∀ w, Calls Try.prog 20 #[.pointer none] w fun e w' => e = .returned (.tuple #[.int .i64 0, .agg #[.int .u64 0, .int .u64 0, .int .i64 0], .int .i64 3]) ∧ Below w.heap.size w w') := min_nil
  have H15 : Hid (∀ w, Calls Try.prog 15 #[.pointer none] w fun e w' => e = .returned (.tuple #[.int .i64 0, .agg #[.int .u64 0, .int .u64 0, .int .i64 0], .int .i64 3]) ∧ Below w.heap.size w w') := pop_nil
  have H19 : Hid (∀ w, Calls Try.prog 19 #[.pointer none, .int .i64 x, .agg #[.int .u64 n, .int .u64 d, .int .i64 t]] w fun e w' => e = .returned (.int .i64 3) ∧ Below w.heap.size w w') := dec_nil x n d t
  have H22 : Hid (∀ w, Calls Try.prog 22 #[.pointer none, .int .i64 x] w fun e w' => e = .returned (.int .i64 3) ∧ Below w.heap.size w w') := del_nil x
  have H11 : Hid (∀ w, Calls Try.prog 11 #[.pointer none] w fun e w' => e = .returned (.int .i64 0) ∧ w' = w) := len_nil
  go_enter Try.func7, Try.ntmps7
  go_upto_region 1 with fail
  have S : Stn w (w.alloc (.cells #[.int .u64 n, .int .u64 d, .int .i64 t] 37)) n d t := ⟨new0, by go_grown⟩
  generalize w.alloc (.cells #[.int .u64 n, .int .u64 d, .int .i64 t] 37) = W at *
  go_upto_region 4 with (go_at_call 8; refine (H8.out _).mono ?_; rintro e w1 ⟨rfl, b1⟩; have S1 := S.next b1; obtain ⟨c0, c1, c2⟩ := S1.c; clear S b1)
  go_upto_region 5 with (go_at_call 14; refine (H14.out _).mono ?_; rintro e w2 ⟨rfl, b2⟩; have S2 := S1.next b2; clear S1 b2 c0 c1 c2)
  go_upto_region 6 with (first | (go_at_call 9; refine (H9.out _).mono ?_; rintro e w3 ⟨rfl, b3⟩; have S3 := S2.next b3; clear S2 b3) | (go_at_call 21; refine (H21.out _ _).mono ?_; rintro e w4 ⟨rfl, b4⟩; have S4 := S3.next b4; clear S3 b4))
  go_upto_region 7 with (go_at_call 18; refine (H18.out _).mono ?_; rintro e w5 ⟨rfl, b5⟩; have S5 := S4.next b5; clear S4 b5)
  have S6 := S5.al (.cells #[.int .u64 0, .int .u64 0, .int .i64 0] 37)
  generalize w5.alloc (.cells #[.int .u64 0, .int .u64 0, .int .i64 0] 37) = W6 at *
  clear S5
  go_upto_region 8 with (go_at_call 20; refine (H20.out _).mono ?_; rintro e w7 ⟨rfl, b7⟩; have S7 := S6.next b7; clear S6 b7)
  have S8 := S7.al (.cells #[.int .u64 0, .int .u64 0, .int .i64 0] 37)
  generalize w7.alloc (.cells #[.int .u64 0, .int .u64 0, .int .i64 0] 37) = W8 at *
  clear S7
  go_upto_region 9 with (go_at_call 15; refine (H15.out _).mono ?_; rintro e w9 ⟨rfl, b9⟩; have S9 := S8.next b9; clear S8 b9)
  have S10 := S9.al (.cells #[.int .u64 0, .int .u64 0, .int .i64 0] 37)
  generalize w9.alloc (.cells #[.int .u64 0, .int .u64 0, .int .i64 0] 37) = W10 at *
  clear S9
  go_upto_region 10 with (first | (go_at_call 9; refine (H9.out _).mono ?_; rintro e w11 ⟨rfl, b11⟩; have S11 := S10.next b11; clear S10 b11) | (go_at_call 21; refine (H21b.out _ _).mono ?_; rintro e w12 ⟨rfl, b12⟩; have S12 := S11.next b12; clear S11 b12))
  obtain ⟨c0, c1, c2⟩ := S12.c
  go_upto_region 12 with (first | (go_at_call 19; refine (H19.out _).mono ?_; rintro e w13 ⟨rfl, b13⟩; have S13 := S12.next b13; clear S12 b13 c0 c1 c2) | (go_at_call 22; refine (H22.out _).mono ?_; rintro e w14 ⟨rfl, b14⟩; have S14 := S13.next b14; clear S13 b14) | (go_at_call 11; refine (H11.out _).mono ?_; rintro e w15 ⟨rfl, rfl⟩))
  clear H8 H9 H14 H21 H21b H18 H20 H15 H19 H22 H11
  go_upto_region 13 with fail
  have S15 : Stn w (w15.alloc (.cells zeroH 70)) n d t := S14.al _
  have Z : Hid (Blk (w15.alloc (.cells zeroH 70)) w15.heap.size 70 32 zH) := new_blk w15
  have L15 : Hid (w.heap.size < w15.heap.size) := (Array.getElem?_eq_some_iff.1 S14.k).1
  have HE : (w15.alloc (.cells zeroH 70)) = w15.alloc (.cells #[.int .i64 0, .map none, .slice none 0 0, .slice none 0 0, .slice none 0 0, .slice none 0 0, .slice none 0 0, .slice none 0 0, .slice none 0 0, .slice none 0 0, .slice none 0 0, .slice none 0 0, .slice none 0 0, .slice none 0 0, .slice none 0 0, .slice none 0 0, .slice none 0 0, .slice none 0 0, .slice none 0 0, .slice none 0 0, .slice none 0 0, .slice none 0 0, .slice none 0 0, .slice none 0 0, .slice none 0 0, .slice none 0 0, .slice none 0 0, .slice none 0 0, .slice none 0 0, .slice none 0 0, .slice none 0 0, .pointer none] 70) := rfl
  rw [← HE]
  clear HE S14
  generalize w15.alloc (.cells zeroH 70) = W16 at *
  generalize w15.heap.size = hb at *
  obtain ⟨c0, c1, c2⟩ := S15.c
  by_cases hd : d = 0
  · subst hd
    have HI : Hid (Calls Try.prog 14 #[.pointer (some ⟨hb, 0, none⟩), .agg #[.int .u64 n, .int .u64 0, .int .i64 t]] W16 fun e w' => e = .returned (.tuple #[.int .i64 0, .int .i64 4]) ∧ Below W16.heap.size W16 w') := insert_form hb n t W16
    go_upto_region 14 with (go_at_call 14; refine HI.out.mono ?_; rintro e w17 ⟨rfl, b17⟩; have S17 := S15.next b17; have Z17 : Hid (Blk w17 hb 70 32 zH) := Z.out.at (b17.block _ Z.out.lt); clear S15 b17 c0 c1 c2)
    have H11 : Hid (Calls Try.prog 11 #[.pointer (some ⟨hb, 0, none⟩)] w17 fun e w' => e = .returned (.int .i64 0) ∧ w' = w17) := len_none w17 hb zH Z17.out rfl
    obtain ⟨c0, c1, c2⟩ := S17.c
    go_wp2_with (go_at_call 11; refine H11.out.mono ?_; rintro e w18 ⟨rfl, rfl⟩)
    go_ret
    exact ⟨rfl, S17.b⟩
  · have HI : Hid (Calls Try.prog 14 #[.pointer (some ⟨hb, 0, none⟩), .agg #[.int .u64 n, .int .u64 d, .int .i64 t]] W16 fun e w' => e = .returned (.tuple #[.int .i64 0, .int .i64 0]) ∧ ∃ eb, Hid (One w' hb eb n d t ∧ Stn w w' n d t)) := by
      refine (insert_zero W16 hb n d t Z.out hd).mono ?_
      rintro e w' ⟨rfl, eb, _, h1, h2⟩
      have hlt := (Array.getElem?_eq_some_iff.1 S15.k).1
      exact ⟨rfl, eb, h1, (h2.block _ hlt (fun e => by have := L15.out; omega)).trans S15.k, S15.b.trans (h2.below (Nat.le_of_lt hlt) fun k hk e => by have := L15.out; omega)⟩
    go_upto_region 14 with (go_at_call 14; refine HI.out.mono ?_; rintro e w17 ⟨rfl, eb, O⟩; clear S15 c0 c1 c2)
    have H11 : Hid (Calls Try.prog 11 #[.pointer (some ⟨hb, 0, none⟩)] w17 fun e w' => e = .returned (.int .i64 1) ∧ w' = w17) := One.len O.out.1
    obtain ⟨c0, c1, c2⟩ := O.out.2.c
    have hp : 0 < (d : Int) := by omega
    go_wp2_with (go_at_call 11; refine H11.out.mono ?_; rintro e w18 ⟨rfl, rfl⟩)
    go_ret
    exact ⟨rfl, O.out.2.b⟩
end Go.Proofs.Ytmcmldlnmmbbgaa
