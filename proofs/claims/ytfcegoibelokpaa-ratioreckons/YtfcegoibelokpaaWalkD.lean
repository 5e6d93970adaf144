/-
  The contracts of the library's Div64 and Rem64.
-/
import Derived.Test.YtfcegoibelokpaaWalkA
import Derived.Test.YtfcegoibelokpaaShelf
import Derived.Test.YtfcegoibelokpaaKnuth
import Derived.Deep.CutRange
import Derived.Deep.CutBlock
import Derived.Deep.DeepCutAuto
namespace Go.Proofs.Ytfcegoibelokpaa
open Go.RowKit

theorem bitLen_gt (y : Nat) (h0 : 0 < y) (hy : y < 18446744073709551616) : ∃ s : Nat, s ≤ 63 ∧ Lib.bitLen y = 64 - s ∧ 9223372036854775808 ≤ y * 2 ^ s ∧ y * 2 ^ s < 18446744073709551616 := by
  suffices h : ∀ k x : Nat, k ≤ 63 → 2 ^ k ≤ x → x < 2 ^ (k + 1) → Lib.bitLen x = k + 1 by
    have hl : 2 ^ y.log2 ≤ y := Nat.log2_self_le (by omega)
    have hr : y < 2 ^ (y.log2 + 1) := Nat.lt_log2_self
    have hk : y.log2 ≤ 63 := by
      have : y.log2 < 64 := (Nat.log2_lt (by omega)).2 hy
      omega
    refine ⟨63 - y.log2, by omega, ?_, ?_, ?_⟩
    · rw [h y.log2 y hk hl hr]; omega
    · have : 2 ^ y.log2 * 2 ^ (63 - y.log2) ≤ y * 2 ^ (63 - y.log2) := Nat.mul_le_mul_right _ hl
      rw [← Nat.pow_add, show y.log2 + (63 - y.log2) = 63 by omega] at this
      exact this
    · have : y * 2 ^ (63 - y.log2) < 2 ^ (y.log2 + 1) * 2 ^ (63 - y.log2) := Nat.mul_lt_mul_of_pos_right hr (Nat.two_pow_pos _)
      rw [← Nat.pow_add, show y.log2 + 1 + (63 - y.log2) = 64 by omega] at this
      exact this
  intro k
  induction k with
  | zero =>
    intro x _ h1 h2
    have : x = 1 := by simp at h1 h2; omega
    subst this
    decide +kernel
  | succ k ih =>
    intro x hk h1 h2
    have hx : x < 2 ^ 64 := Nat.lt_of_lt_of_le h2 (Nat.pow_le_pow_right (by decide) (by omega))
    have hp : 0 < 2 ^ k := Nat.two_pow_pos k
    rw [Nat.pow_succ] at h1 h2
    rw [Lib.bitLen_half x (by omega) hx, ih (x / 2) (by omega) (by omega) (by omega)]
    omega

theorem and32 (a : Nat) (ha : a < 18446744073709551616) : bits .and .u64 (a : Int) 4294967295 = ((a % 4294967296 : Nat) : Int) := by
  have h := bits_and_u64_nat a 4294967295 ha (by omega)
  have e : a &&& 4294967295 = a % 4294967296 := Nat.and_two_pow_sub_one_eq_mod a 32
  rw [e] at h
  exact h
theorem div32 (a : Nat) : (a : Int) / 4294967296 = ((a / 4294967296 : Nat) : Int) := by omega
theorem wrapM (a : Nat) : IntKind.u64.wrap (a : Int) = ((a % 18446744073709551616 : Nat) : Int) := by rw [IntKind.wrap_u64]; omega
theorem wrapN (a : Nat) (ha : a < 18446744073709551616) : IntKind.u64.wrap (a : Int) = (a : Int) := by rw [IntKind.wrap_u64]; omega

/-- what is shifted up and what is shifted down share no bit -/
theorem or_words (hi lo s : Nat) (hs : s ≤ 64) (hh : hi * 2 ^ s < 18446744073709551616) (hl : lo < 18446744073709551616) :
    bits .or .u64 ((hi * 2 ^ s : Nat) : Int) ((lo / 2 ^ (64 - s) : Nat) : Int) = ((hi * 2 ^ s + lo / 2 ^ (64 - s) : Nat) : Int) := by
  have h2 : lo / 2 ^ (64 - s) < 2 ^ s := by
    rw [Nat.div_lt_iff_lt_mul (Nat.two_pow_pos _), ← Nat.pow_add, show s + (64 - s) = 64 by omega]
    exact hl
  have h3 : lo / 2 ^ (64 - s) < 18446744073709551616 := Nat.lt_of_le_of_lt (Nat.div_le_self _ _) hl
  rw [bits_or_u64_nat _ _ hh h3, Nat.mul_comm hi, Nat.two_pow_add_eq_or_of_lt h2]

set_option maxHeartbeats 1000000 in
/-- where the high word is 0 -/
theorem div64_small (lo y : Nat) (w : World) (hlo : lo < 18446744073709551616) (hy : y < 18446744073709551616) (h0 : 0 < y) :
    Calls Try.prog 41 #[.int .u64 0, .int .u64 lo, .int .u64 y] w fun e w' => e = .returned (.tuple #[.int .u64 (lo / y : Nat), .int .u64 (lo % y : Nat)]) ∧ ∃ n, w' = w.drewN n := by
  have hy0 : ((y : Int) == 0) = false := by simp; omega
  have hy1 : ¬ ((y : Int) = 0) := by omega
  have hy2 : ¬ ((y : Int) ≤ 0) := by omega
  go_enter Try.func41, Try.ntmps41
  go_wp2_with fail
  go_quiet (fail)
  go_wp2_with fail
  go_ret2
  refine ⟨?_, _, rfl⟩
  rw [← Int.natCast_emod, div_u64 lo y hlo]
  rfl

theorem second_digit {U d1 d0 Y q1 : Nat} (hY : 0 < Y) (hY2 : Y < 18446744073709551616) (hq : q1 = (U * 4294967296 + d1) / Y) :
    ∃ V q0 : Nat, V < Y ∧ q0 = (V * 4294967296 + d0) / Y ∧ q1 * 4294967296 + q0 = (U * 18446744073709551616 + (d1 * 4294967296 + d0)) / Y ∧
      IntKind.u64.wrap (IntKind.u64.wrap (IntKind.u64.wrap ((U : Int) * 4294967296) + (d1 : Int)) - IntKind.u64.wrap ((q1 : Int) * (Y : Int))) = (V : Int) ∧
      IntKind.u64.wrap (IntKind.u64.wrap (IntKind.u64.wrap ((V : Int) * 4294967296) + (d0 : Int)) - IntKind.u64.wrap ((q0 : Int) * (Y : Int))) = (((U * 18446744073709551616 + (d1 * 4294967296 + d0)) % Y : Nat) : Int) := by
  have key : ∀ a d q V : Nat, V < Y → Y * q + V = a * 4294967296 + d → IntKind.u64.wrap (IntKind.u64.wrap (IntKind.u64.wrap ((a : Int) * 4294967296) + (d : Int)) - IntKind.u64.wrap ((q : Int) * (Y : Int))) = (V : Int) := by
    intro a d q V h1 h2
    rw [show ((q : Int) * (Y : Int)) = ((Y * q : Nat) : Int) by rw [Nat.mul_comm]; simp]
    generalize Y * q = Z at h2
    simp only [IntKind.wrap_u64]
    omega
  refine ⟨(U * 4294967296 + d1) % Y, _, Nat.mod_lt _ hY, rfl, ?_, ?_, ?_⟩
  · rw [hq]; exact K.both hY
  · rw [hq]; exact key U d1 _ _ (Nat.mod_lt _ hY) (Nat.div_add_mod _ _)
  · rw [← K.both_rem]; exact key _ d0 _ _ (Nat.mod_lt _ hY) (Nat.div_add_mod _ _)

set_option maxHeartbeats 2000000 in
set_option maxRecDepth 100000 in
theorem div64_great (hi lo y qn rem : Nat) (w : World) (hlo : lo < 18446744073709551616) (hy : y < 18446744073709551616) (h0 : 0 < hi) (h1 : hi < y)
    (hqn : (hi * 18446744073709551616 + lo) / y = qn) (hrem : (hi * 18446744073709551616 + lo) % y = rem) :
    Calls Try.prog 41 #[.int .u64 hi, .int .u64 lo, .int .u64 y] w fun e w' => e = .returned (.tuple #[.int .u64 qn, .int .u64 rem]) ∧ w' = w := by
  have HQN : Hid ((hi * 18446744073709551616 + lo) / y = qn) := hqn
  have HREM : Hid ((hi * 18446744073709551616 + lo) % y = rem) := hrem
  clear hqn hrem
  have hy0 : ((y : Int) == 0) = false := by simp; omega
  have hy2 : ¬ ((y : Int) ≤ (hi : Int)) := by omega
  have hh : ((hi : Int) == 0) = false := by simp; omega
  obtain ⟨s, hs, hbl, hY1, hY2⟩ := bitLen_gt y (by omega) hy
  have HL : Hid (∀ w, Calls Try.prog 47 #[.int .u64 y] w fun e w' => e = .returned (.int .i64 (s : Int)) ∧ w' = w) := fun w => by
    have := Try.bits_LeadingZeros64 y w (by omega) (by omega)
    simp only [Int.toNat_natCast, hbl] at this
    rw [show ((64 : Int) - ((64 - s : Nat) : Int)) = (s : Int) by omega] at this
    exact this
  clear hbl
  have hpos := Nat.two_pow_pos s
  have hH : hi * 2 ^ s < y * 2 ^ s := Nat.mul_lt_mul_of_pos_right h1 hpos
  have hw := K.words (hi := hi) (lo := lo) (s := s) (by omega)
  have hsh := K.shifted (hi * 18446744073709551616 + lo) y s
  have hL : lo / 2 ^ (64 - s) < 2 ^ s := by
    rw [Nat.div_lt_iff_lt_mul (Nat.two_pow_pos _), ← Nat.pow_add, show s + (64 - s) = 64 by omega]
    exact hlo
  have hUlt : hi * 2 ^ s + lo / 2 ^ (64 - s) < y * 2 ^ s := by
    have : (hi + 1) * 2 ^ s ≤ y * 2 ^ s := Nat.mul_le_mul_right _ h1
    rw [Nat.add_mul] at this
    omega
  have E6 := or_words hi lo s (by omega) (by omega) hlo
  have E1 : IntKind.u64.wrap ((y : Int) * 2 ^ s) = ((y * 2 ^ s : Nat) : Int) := by
    rw [show ((y : Int) * 2 ^ s) = ((y * 2 ^ s : Nat) : Int) by simp]; exact wrapN _ hY2
  have E4 : IntKind.u64.wrap ((hi : Int) * 2 ^ s) = ((hi * 2 ^ s : Nat) : Int) := by
    rw [show ((hi : Int) * 2 ^ s) = ((hi * 2 ^ s : Nat) : Int) by simp]; exact wrapN _ (by omega)
  have E7 : IntKind.u64.wrap ((lo : Int) * 2 ^ s) = ((lo * 2 ^ s % 18446744073709551616 : Nat) : Int) := by
    rw [show ((lo : Int) * 2 ^ s) = ((lo * 2 ^ s : Nat) : Int) by simp]; exact wrapM _
  have E5 : (lo : Int) / 2 ^ (64 - s) = ((lo / 2 ^ (64 - s) : Nat) : Int) := by simp
  rw [hw] at hsh
  clear hw hH
  generalize hUe : hi * 2 ^ s + lo / 2 ^ (64 - s) = U at *
  generalize lo / 2 ^ (64 - s) = L at *
  generalize hi * 2 ^ s = H at *
  generalize hXe : lo * 2 ^ s % 18446744073709551616 = X at *
  have hX : X < 18446744073709551616 := by rw [← hXe]; exact Nat.mod_lt _ (by decide)
  generalize hYe : y * 2 ^ s = Y at *
  have HYs : Hid (Y = Y / 4294967296 * 4294967296 + Y % 4294967296) := by unfold Hid; omega
  have HXs : Hid (X = X / 4294967296 * 4294967296 + X % 4294967296) := by unfold Hid; omega
  have E2 := div32 Y
  have E3 := and32 Y hY2
  have E8 := div32 X
  have E9 := and32 X hX
  have hy1 : 2147483648 ≤ Y / 4294967296 := by omega
  have hy1' : Y / 4294967296 < 4294967296 := by omega
  have hy0' : Y % 4294967296 < 4294967296 := by omega
  have hd1 : X / 4294967296 < 4294967296 := by omega
  have hd0 : X % 4294967296 < 4294967296 := by omega
  generalize Y / 4294967296 = y1 at *
  generalize Y % 4294967296 = y0 at *
  generalize X / 4294967296 = d1 at *
  generalize X % 4294967296 = d0 at *
  have hG := K.guess_le HYs.out hy0' hy1 hUlt
  have hGm := Nat.div_add_mod U y1
  have hGr := Nat.mod_lt U (show 0 < y1 by omega)
  have E10 : IntKind.u64.wrap ((U : Int) / (y1 : Int)) = ((U / y1 : Nat) : Int) := div_u64 U y1 (by omega)
  have hny : ¬ ((y1 : Int) = 0) := by omega
  obtain ⟨q1, hq1⟩ : ∃ q, q = (U * 4294967296 + d1) / Y := ⟨_, rfl⟩
  have hg1 := K.guess HYs.out (by omega) hd1 hq1
  have HQ : Hid (q1 = (U * 4294967296 + d1) / Y) := hq1
  have hq1s := K.small hUlt hd1 hq1
  generalize U / y1 = G at *
  generalize U % y1 = R at *
  rw [Nat.mul_comm] at hGm
  have HG : Hid (U = G * y1 + R) := hGm.symm
  clear hGm
  have hGm := HG.out
  have E11 : IntKind.u64.wrap ((G : Int) * (y1 : Int)) = ((G * y1 : Nat) : Int) := by
    rw [show ((G : Int) * (y1 : Int)) = ((G * y1 : Nat) : Int) by simp]; exact wrapN _ (by omega)
  generalize hGY : G * y1 = GY at hGm E11
  have E12 : IntKind.u64.wrap ((U : Int) - (GY : Int)) = (R : Int) := by
    rw [IntKind.wrap_u64]; omega
  have HS : Hid ((U * 18446744073709551616 + X) / Y = (hi * 18446744073709551616 + lo) / y ∧ (U * 18446744073709551616 + X) % Y = (hi * 18446744073709551616 + lo) % y * 2 ^ s) := hsh
  clear hq1 hGm hGY hsh hUe hXe hYe
  go_enter Try.func41, Try.ntmps41
  go_upto_block 0 with (go_at_call 47; refine (HL.out _).mono ?_; rintro e wx ⟨rfl, hw⟩; rw [hw])
  clear E1 E2 E3 E4 E5 E6 E7 E8 E9 E10 E11 E12 HL
  go_cut [15, 16] from 67 to 85 (fun q _ wx => q = .int .u64 (q1 : Nat) ∧ wx = w)
  case first =>
    go_wp2_with fail
    go_loopw [15, 16] (fun q r wr => ∃ g rr : Nat, q = .int .u64 g ∧ r = .int .u64 rr ∧ Hid (U = g * y1 + rr) ∧ q1 ≤ g ∧ g ≤ 4294967297 ∧ rr < 4294967296 ∧ wr = w) (fun q _ _ => (intOf q).toNat)
    case atStart => exact ⟨G, R, rfl, rfl, HG, hg1, hG, by omega, rfl⟩
    case round =>
      obtain ⟨g, rr, rfl, rfl, HU, hge, hgl, hrr, rfl⟩ := hrel
      have step : q1 < g → Hid (U = (g - 1) * y1 + (rr + y1)) := by
        intro h
        unfold Hid
        obtain ⟨g', rfl⟩ : ∃ g', g = g' + 1 := ⟨g - 1, by omega⟩
        have := HU.out
        rw [Nat.add_mul, Nat.one_mul] at this
        rw [Nat.add_sub_cancel]
        omega
      by_cases hA : 4294967296 ≤ g
      · have hlt := K.too_great HYs.out hUlt hd1 HQ.out HU.out (Or.inl hA)
        have HU' := step hlt
        clear step
        have hA' : (4294967296 : Int) ≤ (g : Int) := by omega
        by_cases hB : 4294967296 ≤ rr + y1
        · have hfb := K.fine_break HYs.out (by omega) hy0' HQ.out HU'.out (by omega) hB
          have hB' : (4294967296 : Int) ≤ (rr : Int) + (y1 : Int) := by omega
          go_wp2_with fail
          go_meet
          exact ⟨by go_num, rfl⟩
        · have hB' : decide ((4294967296 : Int) ≤ (rr : Int) + (y1 : Int)) = false := by simp; omega
          have HB : Hid (rr + y1 < 4294967296) := by unfold Hid; omega
          clear hB
          go_wp2_with fail
          go_roundw
          case rel => exact ⟨g - 1, rr + y1, by go_num, by go_num, HU', by omega, by omega, HB.out, trivial⟩
          case measure => simp only [intOf]; omega
      · have hm : g * y0 ≤ 4294967295 * 4294967295 := Nat.mul_le_mul (by omega) (by omega)
        have EM : IntKind.u64.wrap ((g : Int) * (y0 : Int)) = ((g * y0 : Nat) : Int) := by
          rw [show ((g : Int) * (y0 : Int)) = ((g * y0 : Nat) : Int) by simp]; exact wrapN _ (by omega)
        have hA' : ¬ ((4294967296 : Int) ≤ (g : Int)) := by omega
        by_cases hC : 4294967296 * rr + d1 < g * y0
        · have hlt := K.too_great HYs.out hUlt hd1 HQ.out HU.out (Or.inr hC)
          have HU' := step hlt
          clear step
          generalize g * y0 = m at EM hC hm
          have hC' : (4294967296 : Int) * (rr : Int) + (d1 : Int) < (m : Int) := by omega
          by_cases hB : 4294967296 ≤ rr + y1
          · have hfb := K.fine_break HYs.out (by omega) hy0' HQ.out HU'.out (by omega) hB
            have hB' : (4294967296 : Int) ≤ (rr : Int) + (y1 : Int) := by omega
            go_wp2_with fail
            go_meet
            exact ⟨by go_num, rfl⟩
          · have hB' : decide ((4294967296 : Int) ≤ (rr : Int) + (y1 : Int)) = false := by simp; omega
            have HB : Hid (rr + y1 < 4294967296) := by unfold Hid; omega
            clear hB
            go_wp2_with fail
            go_roundw
            case rel => exact ⟨g - 1, rr + y1, by go_num, by go_num, HU', by omega, by omega, HB.out, trivial⟩
            case measure => simp only [intOf]; omega
        · have hfb := K.fine HYs.out (by omega) HQ.out HU.out (by omega)
          clear step
          generalize g * y0 = m at EM hC hm
          have hC' : ¬ ((4294967296 : Int) * (rr : Int) + (d1 : Int) < (m : Int)) := by omega
          go_wp2_with fail
          go_meet
          exact ⟨by go_num, rfl⟩
  case rest =>
    obtain ⟨rfl, hwc⟩ := hcut
    have hwc' := hwc.symm
    subst hwc'
    clear hg1 hG hGr HG
    obtain ⟨V, q0, hU2, hq0, hT1, F1, F5⟩ := second_digit (d0 := d0) (by omega) hY2 HQ.out
    have HS1 := HS.out.1
    have HS2 := HS.out.2
    rw [HXs.out] at HS1 HS2
    rw [HS1] at hT1
    rw [HS2] at F5
    clear HS1 HS2 HS
    have hg2 := K.guess HYs.out (by omega) hd0 hq0
    have hq0s := K.small hU2 hd0 hq0
    have HQ0 : Hid (q0 = (V * 4294967296 + d0) / Y) := hq0
    have HR : Hid (q1 * 4294967296 + q0 = (hi * 18446744073709551616 + lo) / y) := hT1
    clear hT1 hq0
    have F6 : (((hi * 18446744073709551616 + lo) % y * 2 ^ s : Nat) : Int) / 2 ^ s = (((hi * 18446744073709551616 + lo) % y : Nat) : Int) := by
      rw [show ((2 : Int) ^ s) = ((2 ^ s : Nat) : Int) by simp, ← Int.natCast_ediv, Nat.mul_div_cancel _ hpos]
    generalize (hi * 18446744073709551616 + lo) % y * 2 ^ s = T at F5 F6
    rw [HREM.out] at F6
    have hG2 := K.guess_le HYs.out hy0' hy1 hU2
    have hGm2 := Nat.div_add_mod V y1
    have hGr2 := Nat.mod_lt V (show 0 < y1 by omega)
    have F2 : IntKind.u64.wrap ((V : Int) / (y1 : Int)) = ((V / y1 : Nat) : Int) := div_u64 V y1 (by omega)
    generalize V / y1 = G2 at hg2 hG2 hGm2 F2
    generalize V % y1 = R2 at hGm2 hGr2
    rw [Nat.mul_comm] at hGm2
    have HG2 : Hid (V = G2 * y1 + R2) := hGm2.symm
    clear hGm2
    have hGm2 := HG2.out
    have F3 : IntKind.u64.wrap ((G2 : Int) * (y1 : Int)) = ((G2 * y1 : Nat) : Int) := by
      rw [show ((G2 : Int) * (y1 : Int)) = ((G2 * y1 : Nat) : Int) by simp]; exact wrapN _ (by omega)
    generalize hGY2 : G2 * y1 = GY2 at hGm2 F3
    have F4 : IntKind.u64.wrap ((V : Int) - (GY2 : Int)) = (R2 : Int) := by
      rw [IntKind.wrap_u64]; omega
    clear hGm2 hGY2
    have HF5 : Hid (IntKind.u64.wrap (IntKind.u64.wrap (IntKind.u64.wrap ((V : Int) * 4294967296) + (d0 : Int)) - IntKind.u64.wrap ((q0 : Int) * (Y : Int))) = (T : Int)) := F5
    have HF6 : Hid ((T : Int) / 2 ^ s = (rem : Int)) := F6
    clear F5 F6
    go_upto_block 2 with fail
    clear F1 F2 F3 F4
    go_cut [18, 16] from 102 to 120 (fun q _ wx => q = .int .u64 (q0 : Nat) ∧ wx = w)
    case first =>
      go_wp2_with fail
      go_loopw [18, 16] (fun q r wr => ∃ g rr : Nat, q = .int .u64 g ∧ r = .int .u64 rr ∧ Hid (V = g * y1 + rr) ∧ q0 ≤ g ∧ g ≤ 4294967297 ∧ rr < 4294967296 ∧ wr = w) (fun q _ _ => (intOf q).toNat)
      case atStart => exact ⟨G2, R2, rfl, rfl, HG2, hg2, hG2, by omega, rfl⟩
      case round =>
        obtain ⟨g, rr, rfl, rfl, HU, hge, hgl, hrr, rfl⟩ := hrel
        have step : q0 < g → Hid (V = (g - 1) * y1 + (rr + y1)) := by
          intro h
          unfold Hid
          obtain ⟨g', rfl⟩ : ∃ g', g = g' + 1 := ⟨g - 1, by omega⟩
          have := HU.out
          rw [Nat.add_mul, Nat.one_mul] at this
          rw [Nat.add_sub_cancel]
          omega
        by_cases hA : 4294967296 ≤ g
        · have hlt := K.too_great HYs.out hU2 hd0 HQ0.out HU.out (Or.inl hA)
          have HU' := step hlt
          clear step
          have hA' : (4294967296 : Int) ≤ (g : Int) := by omega
          by_cases hB : 4294967296 ≤ rr + y1
          · have hfb := K.fine_break HYs.out (by omega) hy0' HQ0.out HU'.out (by omega) hB
            have hB' : (4294967296 : Int) ≤ (rr : Int) + (y1 : Int) := by omega
            go_wp2_with fail
            go_meet
            exact ⟨by go_num, rfl⟩
          · have hB' : decide ((4294967296 : Int) ≤ (rr : Int) + (y1 : Int)) = false := by simp; omega
            have HB : Hid (rr + y1 < 4294967296) := by unfold Hid; omega
            clear hB
            go_wp2_with fail
            go_roundw
            case rel => exact ⟨g - 1, rr + y1, by go_num, by go_num, HU', by omega, by omega, HB.out, trivial⟩
            case measure => simp only [intOf]; omega
        · have hm : g * y0 ≤ 4294967295 * 4294967295 := Nat.mul_le_mul (by omega) (by omega)
          have EM : IntKind.u64.wrap ((g : Int) * (y0 : Int)) = ((g * y0 : Nat) : Int) := by
            rw [show ((g : Int) * (y0 : Int)) = ((g * y0 : Nat) : Int) by simp]; exact wrapN _ (by omega)
          have hA' : ¬ ((4294967296 : Int) ≤ (g : Int)) := by omega
          by_cases hC : 4294967296 * rr + d0 < g * y0
          · have hlt := K.too_great HYs.out hU2 hd0 HQ0.out HU.out (Or.inr hC)
            have HU' := step hlt
            clear step
            generalize g * y0 = m at EM hC hm
            have hC' : (4294967296 : Int) * (rr : Int) + (d0 : Int) < (m : Int) := by omega
            by_cases hB : 4294967296 ≤ rr + y1
            · have hfb := K.fine_break HYs.out (by omega) hy0' HQ0.out HU'.out (by omega) hB
              have hB' : (4294967296 : Int) ≤ (rr : Int) + (y1 : Int) := by omega
              go_wp2_with fail
              go_meet
              exact ⟨by go_num, rfl⟩
            · have hB' : decide ((4294967296 : Int) ≤ (rr : Int) + (y1 : Int)) = false := by simp; omega
              have HB : Hid (rr + y1 < 4294967296) := by unfold Hid; omega
              clear hB
              go_wp2_with fail
              go_roundw
              case rel => exact ⟨g - 1, rr + y1, by go_num, by go_num, HU', by omega, by omega, HB.out, trivial⟩
              case measure => simp only [intOf]; omega
          · have hfb := K.fine HYs.out (by omega) HQ0.out HU.out (by omega)
            clear step
            generalize g * y0 = m at EM hC hm
            have hC' : ¬ ((4294967296 : Int) * (rr : Int) + (d0 : Int) < (m : Int)) := by omega
            go_wp2_with fail
            go_meet
            exact ⟨by go_num, rfl⟩
    case rest =>
      obtain ⟨rfl, hwc⟩ := hcut
      have hwc' := hwc.symm
      subst hwc'
      have F5 := HF5.out
      have F6 := HF6.out
      go_wp2_with fail
      go_ret2
      have hR := HR.out
      rw [HQN.out] at hR
      subst hR
      exact ⟨by rw [Int.natCast_add, Int.natCast_mul]; rfl, rfl⟩

/-- the high word is 0 or not -/
theorem div64_any (x y qn rem : Nat) (w : World) (hy : y < 18446744073709551616) (h1 : x / 18446744073709551616 < y) (hqn : x / y = qn) (hrem : x % y = rem) :
    Calls Try.prog 41 #[.int .u64 (x / 18446744073709551616 : Nat), .int .u64 (x % 18446744073709551616 : Nat), .int .u64 y] w fun e w' => e = .returned (.tuple #[.int .u64 qn, .int .u64 rem]) ∧ ∃ n, w' = w.drewN n := by
  have hx : x / 18446744073709551616 * 18446744073709551616 + x % 18446744073709551616 = x := by omega
  by_cases h0 : x / 18446744073709551616 = 0
  · have hm : x % 18446744073709551616 = x := by omega
    have := div64_small (x % 18446744073709551616) y w (Nat.mod_lt _ (by decide)) hy (by omega)
    rw [h0]
    rw [hm, hqn, hrem] at this
    rw [hm]
    exact this
  · refine (div64_great (x / 18446744073709551616) (x % 18446744073709551616) y qn rem w (Nat.mod_lt _ (by decide)) hy (by omega) h1 (by rw [hx]; exact hqn) (by rw [hx]; exact hrem)).mono ?_
    rintro e w' ⟨rfl, rfl⟩
    exact ⟨rfl, 0, rfl⟩

set_option maxHeartbeats 1000000 in
theorem rem64_any (x y rem : Nat) (w : World) (hy : y < 18446744073709551616) (h0 : 0 < y) (hx : x < 340282366920938463463374607431768211456) (hrem : x % y = rem) :
    Calls Try.prog 40 #[.int .u64 (x / 18446744073709551616 : Nat), .int .u64 (x % 18446744073709551616 : Nat), .int .u64 y] w fun e w' => e = .returned (.int .u64 rem) ∧ ∃ n, w' = w.drewN n := by
  have hhi : x / 18446744073709551616 < 18446744073709551616 := by omega
  have hlo : x % 18446744073709551616 < 18446744073709551616 := Nat.mod_lt _ (by decide)
  have hm : (x / 18446744073709551616 % y * 18446744073709551616 + x % 18446744073709551616) % y = rem := by
    rw [← hrem]
    conv => rhs; rw [show x = x / 18446744073709551616 * 18446744073709551616 + x % 18446744073709551616 by omega]
    rw [Nat.add_mod, Nat.mul_mod, Nat.mod_mod, ← Nat.mul_mod, ← Nat.add_mod]
  have hl := Nat.mod_lt (x / 18446744073709551616) h0
  have e1 : (x / 18446744073709551616 % y * 18446744073709551616 + x % 18446744073709551616) / 18446744073709551616 = x / 18446744073709551616 % y := by omega
  have e2 : (x / 18446744073709551616 % y * 18446744073709551616 + x % 18446744073709551616) % 18446744073709551616 = x % 18446744073709551616 := by omega
  have HD : Hid (∀ w, Calls Try.prog 41 #[.int .u64 (x / 18446744073709551616 % y : Nat), .int .u64 (x % 18446744073709551616 : Nat), .int .u64 y] w fun e w' => e = .returned (.tuple #[.int .u64 ((x / 18446744073709551616 % y * 18446744073709551616 + x % 18446744073709551616) / y : Nat), .int .u64 rem]) ∧ ∃ n, w' = w.drewN n) := fun w => by
    have := div64_any (x / 18446744073709551616 % y * 18446744073709551616 + x % 18446744073709551616) y _ rem w hy (by rw [e1]; exact hl) rfl hm
    rw [e1, e2] at this
    exact this
  generalize (x / 18446744073709551616 % y * 18446744073709551616 + x % 18446744073709551616) / y = qn at HD
  clear e1 e2 hm
  generalize x / 18446744073709551616 = hi at *
  generalize x % 18446744073709551616 = lo at *
  have E : (hi : Int) % (y : Int) = ((hi % y : Nat) : Int) := by rw [Int.natCast_emod]
  generalize hi % y = h at *
  have hny : ¬ ((y : Int) = 0) := by omega
  go_enter Try.func40, Try.ntmps40
  go_wp2_with (go_at_call 41; refine (HD.out _).mono ?_; rintro e w' ⟨rfl, nq, rfl⟩)
  go_ret
  exact ⟨rfl, _, rfl⟩

end Go.Proofs.Ytfcegoibelokpaa
