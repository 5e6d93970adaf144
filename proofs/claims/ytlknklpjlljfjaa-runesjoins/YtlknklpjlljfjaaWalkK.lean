/-
  The contract of strings.ContainsAny at a blank and a quotation mark: whether a string has one of the two, whatever its bytes.
-/
import Derived.Test.YtlknklpjlljfjaaWalkJ
namespace Go.Proofs.Ytlknklpjlljfjaa
open Go.RowKit

set_option maxHeartbeats 2000000 in
set_option maxRecDepth 100000 in
theorem idx_two (r : Nat) (x y : UInt8) (w : World) (h1 : 128 ≤ r) (h2 : r ≤ 1114111) (hne : ((r : Int) == 65533) = false) (hv : Lib.validRune r = true) (hx : Utf8.encode r = ⟨#[x, y]⟩) (hy : 128 ≤ y.toNat) :
    Calls Try.prog 41 #[.string ⟨#[32, 34]⟩, .int .i32 r] w fun e w' => e = .returned (.int .i64 (-1)) ∧ Below w.heap.size w w' := by
  have h128 : ¬ ((r : Int) < 128) := by omega
  have h0 : (0 : Int) ≤ r := by omega
  have HV : Hid (Lib.validRune r = true) := hv
  have hyb : ((34 : Int) != (y.toNat : Int)) = true := by simp; omega
  have HY : Hid (128 ≤ y.toNat) := hy
  clear hv hy
  have hval : ∀ w, Calls Try.prog 46 #[.int .i32 r] w fun e w' => e = .returned (.bool true) ∧ w' = w := by
    intro w
    have := Try.utf8_ValidRune r w
    rw [HV.out] at this
    exact this
  have HVA : Hid (∀ w, Calls Try.prog 46 #[.int .i32 r] w fun e w' => e = .returned (.bool true) ∧ w' = w) := hval
  clear hval
  go_enter Try.func41, Try.ntmps41
  go_wp2_with (go_at_call 46; refine (HVA.out _).mono ?_; rintro e w' ⟨rfl, rfl⟩)
  go_step3
  go_wp2_with fail
  go_loopw [9, 10] (fun i f wr => i = .int .i64 1 ∧ f = .int .i64 0 ∧ wr = w') (fun _ _ _ => 0)
  case atStart => exact ⟨rfl, rfl, rfl⟩
  case round =>
    obtain ⟨rfl, rfl, rfl⟩ := hrel
    have HX : Hid (Utf8.encode r = ⟨#[x, y]⟩) := hx
    clear hx h1 h2 hne h128 h0 HVA
    have i1 : ∀ w, (Instr.index 9 (.string ⟨#[32, 34]⟩) (.int .i64 1)).run Try.prog w = .ok (.int .u8 34) w := fun _ => by kernel_rfl
    have i2 : ∀ w, (Instr.index 9 (.string ⟨#[x, y]⟩) (.int .i64 1)).run Try.prog w = .ok (.int .u8 y.toNat) w := fun _ => by kernel_rfl
    have sl : ∀ w, (Instr.slice 9 (.string ⟨#[32, 34]⟩) (some (.int .i64 2)) none none).run Try.prog w = .ok (.string ⟨#[]⟩) w := fun _ => by kernel_rfl
    have wr2 : IntKind.i64.wrap 2 = 2 := by decide
    have wr3 : IntKind.i64.wrap (1 + 1) = 2 := by decide
    have HIB : Hid (∀ w, Calls Try.prog 45 #[.string ⟨#[]⟩, .int .u8 (y.toNat : Int)] w fun e w' => e = .returned (.int .i64 (-1)) ∧ w' = w) := by
      intro w
      exact Try.strings_IndexByte ⟨#[]⟩ y.toNat w
    go_wp2_with fail
    go_step3
    go_wp2_with fail
    go_quiet (fail)
    go_wp2_with fail
    have hbq : Below wr.heap.size wr (wr.drewN nq) := below_drewN (Below.refl _ _) nq
    generalize wr.drewN nq = wq at hbq ⊢
    go_quiet ((go_at_call 45; exact Calls.quiet_of_same (HIB.out _)))
    go_wp2_with fail
    rw [Exit.noGoto_ret]
    go_wp2_with fail
    rw [Exit.noGoto_ret]
    go_ret
    exact ⟨rfl, below_drewN hbq nq⟩


set_option maxHeartbeats 2000000 in
set_option maxRecDepth 100000 in
theorem idx_3 (r : Nat) (x y z : UInt8) (w : World) (h1 : 128 ≤ r) (hne : ((r : Int) == 65533) = false) (hv : Lib.validRune r = true) (hx : Utf8.encode r = ⟨#[x, y, z]⟩) :
    Calls Try.prog 41 #[.string ⟨#[32, 34]⟩, .int .i32 r] w fun e w' => e = .returned (.int .i64 (-1)) ∧ Below w.heap.size w w' := by
  have h128 : ¬ ((r : Int) < 128) := by omega
  have h0 : (0 : Int) ≤ r := by omega
  have HV : Hid (Lib.validRune r = true) := hv
  clear hv
  have HVA : Hid (∀ w, Calls Try.prog 46 #[.int .i32 r] w fun e w' => e = .returned (.bool true) ∧ w' = w) := by
    intro w
    have := Try.utf8_ValidRune r w
    rw [HV.out] at this
    exact this
  go_enter Try.func41, Try.ntmps41
  go_wp2_with (go_at_call 46; refine (HVA.out _).mono ?_; rintro e w' ⟨rfl, rfl⟩)
  go_step3
  go_wp2_with fail
  go_loopw [9, 10] (fun i f wr => i = .int .i64 2 ∧ f = .int .i64 0 ∧ wr = w') (fun _ _ _ => 0)
  case atStart => exact ⟨rfl, rfl, rfl⟩
  case round =>
    obtain ⟨rfl, rfl, rfl⟩ := hrel
    clear hx h1 hne h128 h0 HVA
    go_wp2_with fail
    try rw [Exit.noGoto_ret]
    go_ret
    exact ⟨rfl, Below.refl _ _⟩

set_option maxHeartbeats 2000000 in
set_option maxRecDepth 100000 in
theorem idx_4 (r : Nat) (x y z t : UInt8) (w : World) (h1 : 128 ≤ r) (hne : ((r : Int) == 65533) = false) (hv : Lib.validRune r = true) (hx : Utf8.encode r = ⟨#[x, y, z, t]⟩) :
    Calls Try.prog 41 #[.string ⟨#[32, 34]⟩, .int .i32 r] w fun e w' => e = .returned (.int .i64 (-1)) ∧ Below w.heap.size w w' := by
  have h128 : ¬ ((r : Int) < 128) := by omega
  have h0 : (0 : Int) ≤ r := by omega
  have HV : Hid (Lib.validRune r = true) := hv
  clear hv
  have HVA : Hid (∀ w, Calls Try.prog 46 #[.int .i32 r] w fun e w' => e = .returned (.bool true) ∧ w' = w) := by
    intro w
    have := Try.utf8_ValidRune r w
    rw [HV.out] at this
    exact this
  go_enter Try.func41, Try.ntmps41
  go_wp2_with (go_at_call 46; refine (HVA.out _).mono ?_; rintro e w' ⟨rfl, rfl⟩)
  go_step3
  go_wp2_with fail
  go_loopw [9, 10] (fun i f wr => i = .int .i64 3 ∧ f = .int .i64 0 ∧ wr = w') (fun _ _ _ => 0)
  case atStart => exact ⟨rfl, rfl, rfl⟩
  case round =>
    obtain ⟨rfl, rfl, rfl⟩ := hrel
    clear hx h1 hne h128 h0 HVA
    go_wp2_with fail
    try rw [Exit.noGoto_ret]
    go_ret
    exact ⟨rfl, Below.refl _ _⟩

theorem dec0 : Utf8.decode ⟨#[32, 34]⟩ 0 = (32, 1) := by decide
theorem dec1 : Utf8.decode ⟨#[32, 34]⟩ 1 = (34, 1) := by decide

set_option maxHeartbeats 2000000 in
set_option maxRecDepth 100000 in
theorem idx_err (w : World) :
    Calls Try.prog 41 #[.string ⟨#[32, 34]⟩, .int .i32 65533] w fun e w' => e = .returned (.int .i64 (-1)) ∧ Below w.heap.size w w' := by
  go_enter Try.func41, Try.ntmps41
  go_wp2_with fail
  go_loopw [] (fun wr => ∃ pos, pos ≤ 2 ∧ wr = w.iter ⟨#[32, 34]⟩ pos) (fun wr => 2 - wr.iterPos w.heap.size)
  case atStart => exact ⟨0, by omega, rfl⟩
  case round =>
    obtain ⟨pos, hp, rfl⟩ := hrel
    rcases (by omega : pos = 0 ∨ pos = 1 ∨ pos = 2) with rfl | rfl | rfl
    · have hnx : ∀ ty, (Instr.next (.pointer (some ⟨w.heap.size, 0, none⟩)) true ty).run Try.prog (w.iter ⟨#[32, 34]⟩ 0) = .ok (.tuple #[.bool true, .int .i64 0, .int .i32 32]) (w.iter ⟨#[32, 34]⟩ 1) := fun ty => by
        rw [run_next_any w ⟨#[32, 34]⟩ 0 ty (by decide), dec0]; rfl
      go_wp2_with fail
      go_roundw
      case rel => exact ⟨1, by omega, rfl⟩
      case measure => simp
    · have hnx : ∀ ty, (Instr.next (.pointer (some ⟨w.heap.size, 0, none⟩)) true ty).run Try.prog (w.iter ⟨#[32, 34]⟩ 1) = .ok (.tuple #[.bool true, .int .i64 1, .int .i32 34]) (w.iter ⟨#[32, 34]⟩ 2) := fun ty => by
        rw [run_next_any w ⟨#[32, 34]⟩ 1 ty (by decide), dec1]; rfl
      go_wp2_with fail
      go_roundw
      case rel => exact ⟨2, by omega, rfl⟩
      case measure => simp
    · have hnx : ∀ ty, (Instr.next (.pointer (some ⟨w.heap.size, 0, none⟩)) true ty).run Try.prog (w.iter ⟨#[32, 34]⟩ 2) = _ := fun ty => run_next_end w ⟨#[32, 34]⟩ 2 ty (by decide)
      go_wp2_with fail
      go_ret
      exact ⟨rfl, iter_below w _ _⟩

theorem enc2 (r : Nat) (h1 : 128 ≤ r) (h2 : r < 2048) : ∃ x y : UInt8, Utf8.encode r = ⟨#[x, y]⟩ ∧ 128 ≤ y.toNat := by
  have hv : Utf8.valid r = true := by simp [Utf8.valid]; omega
  refine ⟨UInt8.ofNat (192 + r / 64), UInt8.ofNat (128 + r % 64), ?_, ?_⟩
  · unfold Utf8.encode
    simp only [hv, if_true, Int.toNat_natCast]
    rw [if_neg (by omega), if_pos h2]
  · simp; omega
theorem enc3 (r : Nat) (h1 : 2048 ≤ r) (h2 : r < 65536) (h3 : ¬ (55296 ≤ r ∧ r ≤ 57343)) : ∃ x y z : UInt8, Utf8.encode r = ⟨#[x, y, z]⟩ := by
  have hv : Utf8.valid r = true := by simp [Utf8.valid]; omega
  refine ⟨UInt8.ofNat (224 + r / 4096), UInt8.ofNat (128 + r / 64 % 64), UInt8.ofNat (128 + r % 64), ?_⟩
  unfold Utf8.encode
  simp only [hv, if_true, Int.toNat_natCast]
  rw [if_neg (by omega), if_neg (by omega), if_pos h2]
theorem enc4 (r : Nat) (h1 : 65536 ≤ r) (h2 : r ≤ 1114111) : ∃ x y z t : UInt8, Utf8.encode r = ⟨#[x, y, z, t]⟩ := by
  have hv : Utf8.valid r = true := by simp [Utf8.valid]; omega
  refine ⟨UInt8.ofNat (240 + r / 262144), UInt8.ofNat (128 + r / 4096 % 64), UInt8.ofNat (128 + r / 64 % 64), UInt8.ofNat (128 + r % 64), ?_⟩
  unfold Utf8.encode
  simp only [hv, if_true, Int.toNat_natCast]
  rw [if_neg (by omega), if_neg (by omega), if_neg (by omega)]

/-- no rune beyond 7 bits is a blank or a quotation mark -/
theorem idx_high (r : Nat) (w : World) (h1 : 128 ≤ r) (h2 : r ≤ 1114111) (h3 : ¬ (55296 ≤ r ∧ r ≤ 57343)) :
    Calls Try.prog 41 #[.string ⟨#[32, 34]⟩, .int .i32 r] w fun e w' => e = .returned (.int .i64 (-1)) ∧ Below w.heap.size w w' := by
  by_cases he : r = 65533
  · subst he; exact idx_err w
  have hne : ((r : Int) == 65533) = false := by simp; omega
  have hv : Lib.validRune r = true := by simp [Lib.validRune]; omega
  by_cases a : r < 2048
  · obtain ⟨x, y, hx, hy⟩ := enc2 r h1 a
    exact idx_two r x y w h1 h2 hne hv hx hy
  by_cases b : r < 65536
  · obtain ⟨x, y, z, hx⟩ := enc3 r (by omega) b h3
    exact idx_3 r x y z w h1 hne hv hx
  · obtain ⟨x, y, z, t, hx⟩ := enc4 r (by omega) h2
    exact idx_4 r x y z t w h1 hne hv hx

end Go.Proofs.Ytlknklpjlljfjaa
