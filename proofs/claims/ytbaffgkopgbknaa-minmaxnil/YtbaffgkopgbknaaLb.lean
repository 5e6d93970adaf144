/-
  MinmaxNil's law.
-/
import Derived.Test.YtbaffgkopgbknaaLa
namespace Go.Proofs.Ytbaffgkopgbknaa
open Go.RowKit Go.Maps

/-- the key's box, and all older blocks -/
structure Stn (w W : World) (k : K) : Prop where
  k : W.heap[w.heap.size]? = some (.cells #[.int .i64 k.a, .int .i64 k.b, .int .i64 k.c] 32 (0, 0))
  b : Below w.heap.size w W
theorem Stn.next {w W W' : World} {k : K} (h : Stn w W k) (b : Below W.heap.size W W') : Stn w W' k := ⟨at_below b (Nat.le_refl _) h.k, h.b.trans (b.mono h.b.size)⟩
theorem Stn.al {w W : World} {k : K} (h : Stn w W k) (o : Obj) : Stn w (W.alloc o) k := ⟨at_alloc h.k, h.b.alloc h.b.size _⟩
theorem Stn.c {w W : World} {k : K} (h : Stn w W k) : W.cell? ⟨w.heap.size, 0, none⟩ = some (.int .i64 k.a) ∧ W.cell? ⟨w.heap.size, 1, none⟩ = some (.int .i64 k.b) ∧ W.cell? ⟨w.heap.size, 2, none⟩ = some (.int .i64 k.c) := c3 h.k
theorem zero_calls (w w0 W : World) (k : K) (hk : k.ok) (S : Stn w0 w k) (hW : W = w.alloc (.cells zeroH 58)) :
    Calls Try.prog 12 #[.pointer (some ⟨w.heap.size, 0, none⟩), .agg #[.int .i64 k.a, .int .i64 k.b, .int .i64 k.c]] W fun e w' => e = .returned (.tuple #[.int .i64 0, .int .i64 0]) ∧ Hid (Calls Try.prog 19 #[.pointer (some ⟨w.heap.size, 0, none⟩)] w' fun e w2 => e = .returned (.tuple #[.int .i64 0, .agg #[.int .i64 k.a, .int .i64 k.b, .int .i64 k.c], .int .i64 0]) ∧
      Hid (Stn w0 w2 k ∧ ∀ w3, w3 = w2.alloc (.cells #[.int .i64 k.a, .int .i64 k.b, .int .i64 k.c] 32) → Calls Try.prog 21 #[.pointer (some ⟨w.heap.size, 0, none⟩), .int .i64 0] w3 fun e w4 => e = .returned (.int .i64 0) ∧ Hid (Calls Try.prog 16 #[.pointer (some ⟨w.heap.size, 0, none⟩)] w4 fun e w5 => e = .returned (.int .i64 0) ∧ w5 = w4 ∧ Hid (Below w0.heap.size w0 w4)))) := by
  subst hW
  have L0 : Lw w (w.alloc (.cells zeroH 58)) w.heap.size Ct.nil 0 0 fun _ => False := lw_new w w _ (Below.refl _ _) nofun
  refine (awake_ins w _ _ L0 k hk 0 (by decide)).mono ?_
  rintro e w' ⟨rfl, H⟩
  refine ⟨rfl, H.out.mono ?_⟩
  rintro e w2 ⟨rfl, L2⟩
  have L2 := L2.out
  have S2 : Stn w0 w2 k := S.next L2.b
  refine ⟨rfl, S2, fun w3 e3 => ?_⟩
  subst e3
  have L3 := L2.below ((Below.refl _ w2).alloc (Nat.le_refl _) (.cells #[.int .i64 k.a, .int .i64 k.b, .int .i64 k.c] 32))
  obtain ⟨y, hy, h4⟩ := lw_rem (x := 0) L3 (by decide) (show (Ct.nil.put 0 k) 0 = some k from rfl)
  refine h4.mono ?_
  rintro e w4 ⟨rfl, L4, _⟩
  refine ⟨rfl, (lw_len L4).mono ?_⟩
  rintro e w5 ⟨rfl, rfl⟩
  exact ⟨rfl, rfl, (S.next L4.b).b⟩
set_option maxHeartbeats 4000000 in
theorem nil_law (k : K) (x : Int) (w : World) (hk : k.ok) : Calls Try.prog 7 #[.agg #[.int .i64 k.a, .int .i64 k.b, .int .i64 k.c], .int .i64 x] w fun e w' => e = .returned (.bool true) ∧ Below w.heap.size w w' := by
  have H8 : Hid (∀ w, Calls Try.prog 8 #[] w fun e w' => e = .returned (.bool true) ∧ Below w.heap.size w w') := awake_any
  have H12 : Hid (∀ w, Calls Try.prog 12 #[.pointer none, .agg #[.int .i64 k.a, .int .i64 k.b, .int .i64 k.c]] w fun e w' => e = .returned (.tuple #[.int .i64 0, .int .i64 10]) ∧ Below w.heap.size w w') := insert_nil k
  have H18 : Hid (∀ w, Calls Try.prog 18 #[.pointer none, .int .i64 x] w fun e w' => e = .returned (.tuple #[.agg #[.int .i64 0, .int .i64 0, .int .i64 0], .int .i64 3]) ∧ Below w.heap.size w w') := get_nil x
  have H19 : Hid (∀ w, Calls Try.prog 19 #[.pointer none] w fun e w' => e = .returned (.tuple #[.int .i64 0, .agg #[.int .i64 0, .int .i64 0, .int .i64 0], .int .i64 3]) ∧ Below w.heap.size w w') := min_nil
  have H20 : Hid (∀ w, Calls Try.prog 20 #[.pointer none] w fun e w' => e = .returned (.tuple #[.int .i64 0, .agg #[.int .i64 0, .int .i64 0, .int .i64 0], .int .i64 3]) ∧ Below w.heap.size w w') := max_nil
  have H13 : Hid (∀ w, Calls Try.prog 13 #[.pointer none] w fun e w' => e = .returned (.tuple #[.int .i64 0, .agg #[.int .i64 0, .int .i64 0, .int .i64 0], .int .i64 3]) ∧ Below w.heap.size w w') := pmin_nil
  have H14 : Hid (∀ w, Calls Try.prog 14 #[.pointer none] w fun e w' => e = .returned (.tuple #[.int .i64 0, .agg #[.int .i64 0, .int .i64 0, .int .i64 0], .int .i64 3]) ∧ Below w.heap.size w w') := pmax_nil
  have H17 : Hid (∀ w, Calls Try.prog 17 #[.pointer none, .int .i64 x, .agg #[.int .i64 k.a, .int .i64 k.b, .int .i64 k.c]] w fun e w' => e = .returned (.int .i64 3) ∧ Below w.heap.size w w') := upd_nil x k
  have H21 : Hid (∀ w, Calls Try.prog 21 #[.pointer none, .int .i64 x] w fun e w' => e = .returned (.int .i64 3) ∧ w' = w) := rem_nil x
  have H16 : Hid (∀ w, Calls Try.prog 16 #[.pointer none] w fun e w' => e = .returned (.int .i64 0) ∧ w' = w) := len_nil
  have q32 := eq32s
  go_enter Try.func7, Try.ntmps7
  go_upto_region 1 with fail
  have S : Stn w (w.alloc (.cells #[.int .i64 k.a, .int .i64 k.b, .int .i64 k.c] 32)) k := ⟨new0, by go_grown⟩
  generalize w.alloc (.cells #[.int .i64 k.a, .int .i64 k.b, .int .i64 k.c] 32) = W at *
  go_upto_region 4 with (go_at_call 8; refine (H8.out _).mono ?_; rintro e w1 ⟨rfl, b1⟩; have S1 := S.next b1; obtain ⟨c0, c1, c2⟩ := S1.c; clear S b1)
  go_upto_region 5 with (go_at_call 12; refine (H12.out _).mono ?_; rintro e w2 ⟨rfl, b2⟩; have S2 := S1.next b2; clear S1 b2 c0 c1 c2)
  go_upto_region 6 with (go_at_call 18; refine (H18.out _).mono ?_; rintro e w3 ⟨rfl, b3⟩; have S3 := S2.next b3; clear S2 b3)
  have S4 := S3.al (.cells #[.int .i64 0, .int .i64 0, .int .i64 0] 32)
  generalize w3.alloc (.cells #[.int .i64 0, .int .i64 0, .int .i64 0] 32) = W4 at *
  clear S3
  go_upto_region 7 with (go_at_call 19; refine (H19.out _).mono ?_; rintro e w5 ⟨rfl, b5⟩; have S5 := S4.next b5; clear S4 b5)
  have S6 := S5.al (.cells #[.int .i64 0, .int .i64 0, .int .i64 0] 32)
  generalize w5.alloc (.cells #[.int .i64 0, .int .i64 0, .int .i64 0] 32) = W6 at *
  clear S5
  go_upto_region 8 with (go_at_call 20; refine (H20.out _).mono ?_; rintro e w7 ⟨rfl, b7⟩; have S7 := S6.next b7; clear S6 b7)
  have S8 := S7.al (.cells #[.int .i64 0, .int .i64 0, .int .i64 0] 32)
  generalize w7.alloc (.cells #[.int .i64 0, .int .i64 0, .int .i64 0] 32) = W8 at *
  clear S7
  go_upto_region 9 with (go_at_call 13; refine (H13.out _).mono ?_; rintro e w9 ⟨rfl, b9⟩; have S9 := S8.next b9; clear S8 b9)
  have S10 := S9.al (.cells #[.int .i64 0, .int .i64 0, .int .i64 0] 32)
  generalize w9.alloc (.cells #[.int .i64 0, .int .i64 0, .int .i64 0] 32) = W10 at *
  clear S9
  go_upto_region 10 with (go_at_call 14; refine (H14.out _).mono ?_; rintro e w11 ⟨rfl, b11⟩; have S11 := S10.next b11; clear S10 b11)
  have S12 := S11.al (.cells #[.int .i64 0, .int .i64 0, .int .i64 0] 32)
  generalize w11.alloc (.cells #[.int .i64 0, .int .i64 0, .int .i64 0] 32) = W12 at *
  clear S11
  obtain ⟨c0, c1, c2⟩ := S12.c
  go_upto_region 12 with (first | (go_at_call 17; refine (H17.out _).mono ?_; rintro e w13 ⟨rfl, b13⟩; have S13 := S12.next b13; clear S12 b13 c0 c1 c2) | (go_at_call 21; refine (H21.out _).mono ?_; rintro e w14 ⟨rfl, rfl⟩) | (go_at_call 16; refine (H16.out _).mono ?_; rintro e w15 ⟨rfl, rfl⟩))
  clear H8 H12 H18 H19 H20 H13 H14 H17 H21 H16
  go_upto_region 13 with fail
  have HE : (w15.alloc (.cells zeroH 58)) = w15.alloc (.cells #[.int .i64 0, .map none, .slice none 0 0] 58) := rfl
  rw [← HE]
  clear HE
  have HZ : Hid (Calls Try.prog 12 #[.pointer (some ⟨w15.heap.size, 0, none⟩), .agg #[.int .i64 k.a, .int .i64 k.b, .int .i64 k.c]] (w15.alloc (.cells zeroH 58)) fun e w' => e = .returned (.tuple #[.int .i64 0, .int .i64 0]) ∧ Hid (Calls Try.prog 19 #[.pointer (some ⟨w15.heap.size, 0, none⟩)] w' fun e w2 => e = .returned (.tuple #[.int .i64 0, .agg #[.int .i64 k.a, .int .i64 k.b, .int .i64 k.c], .int .i64 0]) ∧
      Hid (Stn w w2 k ∧ ∀ w3, w3 = w2.alloc (.cells #[.int .i64 k.a, .int .i64 k.b, .int .i64 k.c] 32) → Calls Try.prog 21 #[.pointer (some ⟨w15.heap.size, 0, none⟩), .int .i64 0] w3 fun e w4 => e = .returned (.int .i64 0) ∧ Hid (Calls Try.prog 16 #[.pointer (some ⟨w15.heap.size, 0, none⟩)] w4 fun e w5 => e = .returned (.int .i64 0) ∧ w5 = w4 ∧ Hid (Below w.heap.size w w4))))) := zero_calls w15 w _ k hk S13 rfl
  have S15 : Hid (Stn w (w15.alloc (.cells zeroH 58)) k) := S13.al _
  generalize w15.alloc (.cells zeroH 58) = W16 at *
  generalize w15.heap.size = hb at *
  clear S13
  obtain ⟨c0, c1, c2⟩ := S15.out.c
  go_upto_region 14 with (go_at_call 12; refine HZ.out.mono ?_; first | rintro e w17 rfl H17 | rintro e w17 ⟨rfl, H17⟩)
  clear c0 c1 c2
  go_upto_region 15 with (go_at_call 19; refine H17.out.mono ?_; first | rintro e w18 rfl H18 | rintro e w18 ⟨rfl, H18⟩)
  have H21 := H18.out.2 _ rfl
  obtain ⟨c0, c1, c2⟩ := (H18.out.1.al (.cells #[.int .i64 k.a, .int .i64 k.b, .int .i64 k.c] 32)).c
  obtain ⟨d0, d1, d2⟩ := c3 (w := w18.alloc (.cells #[.int .i64 k.a, .int .i64 k.b, .int .i64 k.c] 32)) (g := w18.heap.size) new0
  generalize w18.alloc (.cells #[.int .i64 k.a, .int .i64 k.b, .int .i64 k.c] 32) = W19 at *
  go_wp2_with (first | (go_at_call 21; refine H21.mono ?_; first | rintro e w20 rfl H20 | rintro e w20 ⟨rfl, H20⟩) | (go_at_call 16; refine H20.out.mono ?_; first | rintro e w21 rfl rfl B21 | rintro e w21 ⟨rfl, rfl, B21⟩))
  go_ret
  exact ⟨rfl, B21.out⟩
end Go.Proofs.Ytbaffgkopgbknaa
