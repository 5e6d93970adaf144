/-
  TimerFull's law.
-/
import Derived.Test.YtnjnfbfjmeofaaaLh
namespace Go.Proofs.Ytnjnfbfjmeofaaa
open Go.RowKit Go.Maps Go.WideMaps

theorem conv2 (w : World) (x y : Nat) : (convert 56 9 (.slice (some ⟨w.heap.size, 0, none⟩) 2 2)).run Try.prog (w.alloc (.cells #[.int .u8 x, .int .u8 y] 5)) = .ok (.string (nm2 x y)) (w.alloc (.cells #[.int .u8 x, .int .u8 y] 5)) := by
  refine run_convert_bytes_arg _ 56 5 Try.underlying56 Try.underlying5 w.heap.size 0 2 2 [(x : Int), (y : Int)] rfl (fun i hi => ?_) 9 Try.underlying9
  rw [cell_of new0]
  match i, hi with
  | 0, _ => rfl
  | 1, _ => rfl
theorem nm2_size (x y : Nat) : (nm2 x y).size ≤ 281474976710656 := by unfold nm2; rw [strOfNums_size]; simp
set_option maxHeartbeats 4000000 in
set_option maxRecDepth 100000 in
theorem full_law (n : Nat) (x : Int) (w : World) (hn : n < 256) :
    Calls Try.prog 6 #[.int .u8 n, .int .i64 x] w fun e w' => e = .returned (.bool true) ∧ Below w.heap.size w w' := by
  have HA : Hid (Calls Try.prog 9 #[] w fun e w' => e = .returned (.bool true) ∧ Hid (Below w.heap.size w w')) := awake_any w w (Below.refl _ _)
  have HN : Hid (∀ W, Below w.heap.size w W → Calls Try.prog 10 #[] W fun e w' => e = .returned (.pointer (some ⟨W.heap.size, 0, none⟩)) ∧ Hid (LL w w' W.heap.size NX [])) := fun W b => (l_new w W b).mono fun e w' h => ⟨h.1, h.2.1⟩
  obtain ⟨R2, R3, R4, r1, r2, r3, r4, r5, r6, r7, r8, r9⟩ := full_math n hn x
  have HM : Hid (setR sAn x (RF 1024) = RF 1024 ∧ setC sAn.data.toList (RF 1024) = 6 ∧ setR (nm2 n (n % 4)) x (RF 1024) = R2 ∧ setC (nm2 n (n % 4)).data.toList (RF 1024) = 0 ∧ canC (nm2 n (n % 4)).data.toList R2 = 0 ∧ drp (nm2 n (n % 4)).data.toList R2 = R3 ∧ setR sAn x R3 = R4 ∧ setC sAn.data.toList R3 = 0 ∧ setC sOm.data.toList R4 = 6) := ⟨r1, r2, r3, r4, r5, r6, r7, r8, r9⟩
  clear r1 r2 r3 r4 r5 r6 r7 r8 r9
  obtain ⟨m, hm⟩ : ∃ m : Nat, m = n % 4 := ⟨_, rfl⟩
  have hm1 : (n : Int).tmod 4 = (m : Int) := by rw [Int.tmod_eq_emod_of_nonneg (by omega)]; omega
  have hm2 : (n : Int) % 4 = (m : Int) := by omega
  have hn2 : (n : Int) < 256 := by omega
  have hm3 : (m : Int) < 4 := by omega
  have HCV : Hid (∀ W : World, (convert 56 9 (.slice (some ⟨W.heap.size, 0, none⟩) 2 2)).run Try.prog (W.alloc (.cells #[.int .u8 n, .int .u8 m] 5)) = .ok (.string (nm2 n (n % 4))) (W.alloc (.cells #[.int .u8 n, .int .u8 m] 5))) := fun W => by rw [hm]; exact conv2 W n (n % 4)
  clear hm hn
  go_enter Try.func6, Try.ntmps6
  go_wp2_with (first | (go_at_call 9; refine HA.out.mono ?_; rintro e w1 ⟨rfl, b1⟩) | (go_at_call 10; refine (HN.out _ b1.out).mono ?_; rintro e w2 ⟨rfl, h2⟩))
  go_loopw [6] (fun t wr => ∃ k : Nat, t = .int .i64 k ∧ Hid (k ≤ 1024 ∧ LL w wr w1.heap.size NX (RF k))) (fun t _ => 1024 - (intOf t).toNat)
  case atStart => exact ⟨0, rfl, Nat.zero_le _, h2.out⟩
  case round =>
    clear h2 HA HN
    obtain ⟨k, rfl, HK⟩ := hrel
    by_cases hk : k < 1024
    · have hk' : (k : Int) < 1024 := by omega
      obtain ⟨a, ha⟩ : ∃ a : Nat, a = k % 256 := ⟨_, rfl⟩
      obtain ⟨d, hd⟩ : ∃ d : Nat, d = k / 256 := ⟨_, rfl⟩
      have ha1 : IntKind.u8.wrap (k : Int) = (a : Int) := by rw [IntKind.wrap_u8]; omega
      have hd1 : (k : Int) / 256 = (d : Int) := by omega
      have hd2 : (k : Int).tdiv 256 = (d : Int) := by rw [Int.tdiv_eq_ediv_of_nonneg (by omega)]; omega
      have hd3 : IntKind.u8.wrap (d : Int) = (d : Int) := by rw [IntKind.wrap_u8]; omega
      have hcv : (convert 56 9 (.slice (some ⟨wr.heap.size, 0, none⟩) 2 2)).run Try.prog (wr.alloc (.cells #[.int .u8 a, .int .u8 d] 5)) = .ok (.string (nmF k)) (wr.alloc (.cells #[.int .u8 a, .int .u8 d] 5)) := by rw [ha, hd]; exact conv2 wr _ _
      have HS : Hid (Calls Try.prog 16 #[.pointer (some ⟨w1.heap.size, 0, none⟩), .string (nmF k), .int .i64 k] (wr.alloc (.cells #[.int .u8 a, .int .u8 d] 5)) fun e w' => e = .returned (.int .i64 0) ∧ Hid (LL w w' w1.heap.size NX (RF (k + 1)))) := by
        have := l_set (HK.out.2.below (w' := wr.alloc (.cells #[.int .u8 a, .int .u8 d] 5)) ((Below.refl _ _).alloc (Nat.le_refl _) _)) (nmF k) (k : Int) (nm2_size _ _)
        rw [(RF_step hk).1, (RF_step hk).2] at this
        exact this
      have Hk : Hid (k < 1024) := hk
      clear hk ha hd HK
      go_wp2_with (go_at_call 16; refine HS.out.mono ?_; first | rintro e w3 rfl h3 | rintro e w3 ⟨rfl, h3⟩)
      have := Hk.out
      refine ⟨⟨k + 1, by simp, by show k + 1 ≤ 1024; omega, h3.out⟩, ?_⟩
      simp [intOf]
      omega
    · have hk' : ¬ (k : Int) < 1024 := by omega
      have hk2 : decide ((k : Int) < 1024) = false := decide_eq_false hk'
      have L0 : Hid (LL w wr w1.heap.size NX (RF 1024) ∧ (RF 1024).length = 1024) := by
        have h1 := HK.out.1
        have h2 := HK.out.2
        rw [show k = 1024 by omega] at h2
        exact ⟨h2, RF_len _⟩
      clear HK hk
      generalize RF 1024 = RR at *
      have H1 : Hid (Calls Try.prog 16 #[.pointer (some ⟨w1.heap.size, 0, none⟩), .string ⟨#[97, 110, 111, 116, 104, 101, 114]⟩, .int .i64 x] wr fun e w' => e = .returned (.int .i64 6) ∧ Hid (LL w w' w1.heap.size NX RR)) := by
        have := l_set L0.out.1 sAn x (by decide)
        rw [HM.out.1, HM.out.2.1] at this
        exact this
      have H2 : Hid (∀ W, LL w W w1.heap.size NX RR → Calls Try.prog 12 #[.pointer (some ⟨w1.heap.size, 0, none⟩)] W fun e w' => e = .returned (.int .i64 1024) ∧ w' = W) := fun W h => by
        have := l_len h
        rw [L0.out.2] at this
        exact this
      have H3 : Hid (∀ W, LL w W w1.heap.size NX RR → Calls Try.prog 16 #[.pointer (some ⟨w1.heap.size, 0, none⟩), .string (nm2 n (n % 4)), .int .i64 x] (W.alloc (.cells #[.int .u8 n, .int .u8 m] 5)) fun e w' => e = .returned (.int .i64 0) ∧ Hid (LL w w' w1.heap.size NX R2)) := fun W h => by
        have := l_set (h.below (w' := W.alloc (.cells #[.int .u8 n, .int .u8 m] 5)) ((Below.refl _ _).alloc (Nat.le_refl _) _)) (nm2 n (n % 4)) x (nm2_size _ _)
        rw [HM.out.2.2.1, HM.out.2.2.2.1] at this
        exact this
      have H4 : Hid (∀ W, LL w W w1.heap.size NX R2 → Calls Try.prog 19 #[.pointer (some ⟨w1.heap.size, 0, none⟩), .string (nm2 n (n % 4))] W fun e w' => e = .returned (.int .i64 0) ∧ Hid (LL w w' w1.heap.size NX R3)) := fun W h => by
        have := l_cancel h (nm2 n (n % 4)) (Nat.le_trans (nm2_size _ _) (by decide))
        rw [HM.out.2.2.2.2.1, HM.out.2.2.2.2.2.1] at this
        exact this
      have H5 : Hid (∀ W, LL w W w1.heap.size NX R3 → Calls Try.prog 16 #[.pointer (some ⟨w1.heap.size, 0, none⟩), .string ⟨#[97, 110, 111, 116, 104, 101, 114]⟩, .int .i64 x] W fun e w' => e = .returned (.int .i64 0) ∧ Hid (Calls Try.prog 16 #[.pointer (some ⟨w1.heap.size, 0, none⟩), .string ⟨#[111, 110, 101, 32, 109, 111, 114, 101]⟩, .int .i64 x] w' fun e w2 => e = .returned (.int .i64 6) ∧ Hid (Below w.heap.size w w2))) := fun W h => by
        have := l_set h sAn x (by decide)
        rw [HM.out.2.2.2.2.2.2.1, HM.out.2.2.2.2.2.2.2.1] at this
        refine this.mono ?_
        rintro e w' ⟨rfl, h2⟩
        refine ⟨rfl, ?_⟩
        have := l_set h2 sOm x (by decide)
        rw [HM.out.2.2.2.2.2.2.2.2] at this
        refine this.mono ?_
        rintro e w' ⟨rfl, h3⟩
        exact ⟨rfl, h3.bel⟩
      go_upto_region 11 with (first | (go_at_call 16; refine H1.out.mono ?_; rintro e w3 ⟨rfl, h3⟩) | (go_at_call 12; refine (H2.out _ h3.out).mono ?_; rintro e w4 ⟨rfl, rfl⟩))
      have hcv := HCV.out w4
      have H16 := H3.out _ h3.out
      clear H1 H2 H3 HCV
      go_upto_region 14 with (first | (go_at_call 16; refine H16.mono ?_; rintro e w5 ⟨rfl, h5⟩) | (go_at_call 19; refine (H4.out _ h5.out).mono ?_; rintro e w6 ⟨rfl, h6⟩))
      have H17 := H5.out _ h6.out
      clear H4 H5 H16
      go_wp2_with (go_at_call 16; first | (refine H18.out.mono ?_; rintro e w8 ⟨rfl, h8⟩) | (refine H17.mono ?_; rintro e w7 ⟨rfl, H18⟩))
      go_ret
      exact ⟨rfl, h8.out⟩
end Go.Proofs.Ytnjnfbfjmeofaaa
