/-
  The law on fuses: its mathematics and its walk.
-/
import Derived.Test.YtnohidalomjfmaaRt
namespace Go.Proofs.Ytnohidalomjfmaa
open Go.RowKit Go.Maps Go.WideMaps Go.Sort

def fzB (j : Nat) : List UInt8 := (List.range j).map UInt8.ofNat
theorem fzB_length (j : Nat) : (fzB j).length = j := by unfold fzB; rw [List.length_map, List.length_range]
theorem fzB_succ (j : Nat) : fzB (j + 1) = fzB j ++ [UInt8.ofNat j] := by unfold fzB; rw [List.range_succ, List.map_append]; rfl
def fzF : Nat → List Fil
  | 0 => []
  | j + 1 => [⟨[102], fzB (j + 1), 0⟩]
def fzS (k i : Nat) : DK := ⟨fzF (min i k), decide (k < i), some (k - i)⟩
theorem fz_fnd : ∀ j, fnd Fil.nm [102] (fzF (j + 1)) = some ⟨[102], fzB (j + 1), 0⟩ := fun _ => rfl
theorem fz_ok : okN [102] = true := by decide
theorem fz_step (k i : Nat) (hk : k ≤ 40) : appendD (fzS k i) [102] [UInt8.ofNat i] = (if i < k then 0 else 11, fzS k (i + 1)) := by
  unfold appendD
  rw [fz_ok]
  by_cases h : i < k
  · obtain ⟨m, hm⟩ : ∃ m, k - i = m + 1 := ⟨k - i - 1, by omega⟩
    have e1 : min i k = i := by omega
    have e2 : min (i + 1) k = i + 1 := by omega
    have e3 : k - (i + 1) = m := by omega
    have e4 : ¬ k < i := by omega
    have e5 : ¬ k < i + 1 := by omega
    rw [if_pos h]
    unfold fzS burn
    rw [e1, e2, e3, hm]
    simp only [decide_eq_false e4, decide_eq_false e5, Bool.false_eq_true, if_false, Bool.true_eq_false, if_true]
    cases i with
    | zero =>
      simp [fzF, fnd, ins, fzB]
    | succ i =>
      simp only [fz_fnd]
      rw [fzB_length, if_neg (by simp; omega)]
      simp [fzF, upd, fzB_succ]
  · rw [if_neg h]
    by_cases h2 : i = k
    · subst h2
      have e1 : min i i = i := by omega
      have e2 : min (i + 1) i = i := by omega
      unfold fzS burn
      rw [e1, e2, Nat.sub_self, show i - (i + 1) = 0 by omega]
      simp only [decide_eq_false (Nat.lt_irrefl i), Bool.false_eq_true, if_false, Bool.true_eq_false, decide_eq_true (Nat.lt_succ_self i)]
      cases i with
      | zero => simp [fzF, fnd]
      | succ i =>
        simp only [fz_fnd]
        rw [fzB_length, if_neg (by simp; omega)]
    · have e1 : min i k = k := by omega
      have e2 : min (i + 1) k = k := by omega
      unfold fzS
      rw [e1, e2, show k - i = 0 by omega, show k - (i + 1) = 0 by omega, decide_eq_true (show k < i by omega), decide_eq_true (show k < i + 1 by omega)]
      simp
theorem fz_read (k i : Nat) (h : k < i) (n : List UInt8) : readD (fzS k i) n = (11, []) := by unfold readD fzS; simp [h]
theorem fz_list (k i : Nat) (h : k < i) : listD (fzS k i) = [] := by unfold listD fzS; simp [h]
theorem fz_sync (k i : Nat) (h : k < i) (n : List UInt8) : syncD (fzS k i) n = (11, fzS k i) := by unfold syncD fzS; simp [h]
/-- behind the crash -/
def fzR (k : Nat) : DK := restartD (fzS k (k + 1)) [127]
theorem fz_restart (k i : Nat) (h : k < i) : restartD (fzS k i) [127] = fzR k := by
  unfold fzR restartD fzS
  simp only
  rw [show min i k = k by omega, show min (k + 1) k = k by omega]
theorem fz_down (k : Nat) : (fzR k).down = false := rfl
theorem fz_read0 : readD (fzR 0) [102] = (3, []) := rfl
theorem fz_read1 (j : Nat) : ∃ b, readD (fzR (j + 1)) [102] = (0, b) ∧ b.length = 127 % (j + 2) := by
  refine ⟨crashB (fzB (j + 1)) 0 127, ?_, ?_⟩
  · unfold fzR restartD fzS
    simp only
    rw [show min (j + 1 + 1) (j + 1) = j + 1 by omega]
    unfold fzF rst
    rw [if_pos (by simp only; rw [fzB_length]; omega)]
    rfl
  · rw [crashB_length _ _ _ (Nat.zero_le _), fzB_length]
    simp
theorem fz_sync1 (j : Nat) : (syncD (fzR (j + 1)) [102]).1 = 0 := by
  unfold fzR restartD fzS
  simp only
  rw [show min (j + 1 + 1) (j + 1) = j + 1 by omega]
  unfold fzF rst
  rw [if_pos (by simp only; rw [fzB_length]; omega)]
  rfl

/-- a disk behind a call -/
def ApR (pb : Nat) (D : DK) (tg : Nat → Tg) (w w' : World) : Prop := ∃ tg', Dsk w' tg' pb D ∧ Step tg tg' w w'
def RdR (l : List UInt8) (w w' : World) (v : Value) : Prop := Own w' w.heap.size v l ∧ Below w.heap.size w w'
theorem OwnS.shape {w : World} {B : Nat} {v : Value} {ns : List (List UInt8)} (h : OwnS w B v ns) : ∃ a c, v = .slice a ns.length c := by
  rcases h.2 with ⟨hv, h0⟩ | ⟨g, cap, cur, hv, _⟩
  · exact ⟨none, 0, by rw [hv, h0]⟩
  · exact ⟨_, cap, hv⟩
theorem down_any {w : World} {tg : Nat → Tg} {pb : Nat} {D : DK} {b : Bool} (h : Dsk w tg pb D) (hb : D.down = b) : Calls Try.prog 14 #[.pointer (some ⟨pb, 0, none⟩)] w fun e w' => e = .returned (.bool b) ∧ w' = w := by
  obtain ⟨_, _, _, h⟩ := h
  have hc := h.cell
  rw [hb] at hc
  exact down_at w pb _ _ _ b hc
theorem fz_zero (k : Nat) : setF DK.new (k : Int) = fzS k 0 := by
  unfold setF fzS
  rw [if_pos (by omega), Nat.zero_min, decide_eq_false (by omega)]
  rfl
theorem u8_small {i : Nat} (h : i < 256) : (UInt8.ofNat i).toNat = i := by rw [UInt8.toNat_ofNat']; omega
set_option maxHeartbeats 2000000 in
set_option maxRecDepth 100000 in
theorem law_fuse (a b : Nat) (w : World) (ha : a ≤ 255) (hb : b ≤ 255) :
    Calls Try.prog 5 #[.int .u8 a, .int .u8 b] w fun e w' => e = .returned (.bool true) ∧ Below w.heap.size w w' := by
  have H9 : Hid (∀ w, Calls Try.prog 9 #[] w fun e w' => e = .returned (.bool true) ∧ Below w.heap.size w w') := fun w => awake_any w
  have H11 : Hid (∀ w, Calls Try.prog 11 #[] w fun e w' => e = .returned (.pointer (some ⟨w.heap.size, 0, none⟩)) ∧ w' = w.alloc (.cells #[.map none, .bool false, .bool false, .int .i64 0] 55)) := fun w => new_at w
  obtain ⟨k, hk⟩ : ∃ k, a % 40 = k := ⟨_, rfl⟩
  obtain ⟨j, hj⟩ : ∃ j, b % 5 = j := ⟨_, rfl⟩
  have hK : (a : Int) % 40 = (k : Int) := by omega
  have hJ : (b : Int) % 5 = (j : Int) := by omega
  have hk40 : k < 40 := by omega
  have hj5 : j < 5 := by omega
  clear hk hj
  go_enter Try.func5, Try.ntmps5
  go_wp2_with (go_at_call 9; refine (H9.out _).mono ?_)
  rintro e w1 ⟨rfl, b1⟩
  have y1 : Hid (Below w.heap.size w w1) := b1
  clear b1
  go_wp2_with (go_at_call 11; refine (H11.out _).mono ?_)
  rintro e w2 ⟨rfl, e2⟩
  have D2 : Hid (Dsk w2 (tgN w1.heap.size) w1.heap.size DK.new) := dsk_new w1 w2 e2
  have y2 : Hid (Below w.heap.size w w2) := by rw [e2]; exact below_from y1.out ((Below.refl _ w1).alloc (Nat.le_refl _) _) y1.out.size
  have S2 : Hid (w1.heap.size < w2.heap.size) := by rw [e2]; simp [Hid]
  clear e2
  have H21 : Hid (Calls Try.prog 21 #[.pointer (some ⟨w1.heap.size, 0, none⟩), .int .i64 k] w2 fun e w' => e = .returned (.tuple #[]) ∧ Dsk w' (tgN w1.heap.size) w1.heap.size (fzS k 0) ∧ Step (tgN w1.heap.size) (tgN w1.heap.size) w2 w') := by
    have := setfuse_any (k : Int) (by omega) D2.out
    rw [fz_zero] at this
    exact this
  go_wp2_with (go_at_call 21; refine H21.out.mono ?_)
  rintro e w3 ⟨rfl, d3, st3⟩
  have hT3 : ∀ kk, tgN w1.heap.size kk ≠ .no → w.heap.size ≤ kk := fun kk h => by rw [tgN_new h]; exact y1.out.size
  have R3 : Hid (∃ tg, Dsk w3 tg w1.heap.size (fzS k 0) ∧ (∀ kk, tg kk ≠ .no → w.heap.size ≤ kk) ∧ Below w.heap.size w w3) := ⟨_, d3, hT3, y2.out.trans (st3.below y2.out.size hT3).1⟩
  clear d3 st3 hT3 H21 D2
  go_wp2_with fail
  go_loopw [7] (fun iv wr => ∃ i : Nat, i ≤ k + 1 + j ∧ iv = .int .i64 i ∧ ∃ tg, Dsk wr tg w1.heap.size (fzS k i) ∧ (∀ kk, tg kk ≠ .no → w.heap.size ≤ kk) ∧ Below w.heap.size w wr) (fun iv _ => k + 1 + j - (intOf iv).toNat)
  case atStart => exact ⟨0, Nat.zero_le _, rfl, R3.out⟩
  case round =>
    obtain ⟨i, hi, rfl, tg, dr, tr, yr⟩ := hrel
    by_cases hlt : i < k + 1 + j
    · have hi2 : (i : Int) < (k : Int) + 1 + (j : Int) := by omega
      have bb : Below wr.heap.size wr (wr.alloc (.cells #[.int .u8 i] 5)) := (Below.refl _ wr).alloc (Nat.le_refl _) _
      have tn : tg wr.heap.size = .no := by obtain ⟨_, _, _, h⟩ := dr; exact new_no h.lt (Nat.le_refl _)
      have hrow : Row (wr.alloc (.cells #[.int .u8 i] 5)) wr.heap.size 0 [UInt8.ofNat i] := by
        have := row_new (w := wr) (l := [UInt8.ofNat i]) (fr := (0, 0))
        unfold bv at this
        rw [List.map_cons, u8_small (by omega)] at this
        exact this
      have H16 : Hid (Calls Try.prog 16 #[.pointer (some ⟨w1.heap.size, 0, none⟩), .string ⟨#[102]⟩, .slice (some ⟨wr.heap.size, 0, none⟩) 1 1] (wr.alloc (.cells #[.int .u8 i] 5)) fun e w' => e = .returned (.int .i64 (if i < k then 0 else 11)) ∧ ApR w1.heap.size (fzS k (i + 1)) tg (wr.alloc (.cells #[.int .u8 i] 5)) w') := by
        have := append_any (dr.keepB bb) ⟨#[102]⟩ (by decide) (some ⟨wr.heap.size, 0, none⟩) 1 1 [UInt8.ofNat i] (by decide) rfl nofun (.inr ⟨_, 0, rfl, hrow, by simp, tn⟩)
        rw [show (⟨#[102]⟩ : ByteArray).data.toList = [102] from rfl, fz_step k i (by omega)] at this
        exact this
      have YB : Hid (Below w.heap.size w (wr.alloc (.cells #[.int .u8 i] 5))) := below_from yr bb yr.size
      have TR : Hid (∀ kk, tg kk ≠ .no → w.heap.size ≤ kk) := tr
      clear bb tn hrow dr tr yr
      by_cases hik : i < k
      · have h1 : (i : Int) < (k : Int) := by omega
        have h2 : ¬ (k : Int) ≤ (i : Int) := by omega
        rw [if_pos hik] at H16
        clear hi2 hik
        go_wp2_with (go_at_call 16; refine H16.out.mono ?_)
        first | rintro e w4 rfl hap | rintro e w4 ⟨rfl, hap⟩
        obtain ⟨tg4, d4, st4⟩ := hap
        have H14 : Hid (Calls Try.prog 14 #[.pointer (some ⟨w1.heap.size, 0, none⟩)] w4 fun e w' => e = .returned (.bool false) ∧ w' = w4) := down_any d4 (by unfold fzS; simp; omega)
        have bt := st4.below YB.out.size TR.out
        have RX : Hid (∃ tg, Dsk w4 tg w1.heap.size (fzS k (i + 1)) ∧ (∀ kk, tg kk ≠ .no → w.heap.size ≤ kk) ∧ Below w.heap.size w w4) := ⟨tg4, d4, bt.2, YB.out.trans bt.1⟩
        clear d4 st4 bt
        go_wp2_with (go_at_call 14; refine H14.out.mono ?_)
        first | rintro e w5 rfl rfl | rintro e w5 ⟨rfl, rfl⟩
        go_wp2_with fail
        refine ⟨⟨i + 1, by omega, by go_num, RX.out⟩, ?_⟩
        simp [intOf]; omega
      · have h1 : ¬ (i : Int) < (k : Int) := by omega
        have h2 : (k : Int) ≤ (i : Int) := by omega
        rw [if_neg hik] at H16
        clear hi2 hik
        go_wp2_with (go_at_call 16; refine H16.out.mono ?_)
        first | rintro e w4 rfl hap | rintro e w4 ⟨rfl, hap⟩
        obtain ⟨tg4, d4, st4⟩ := hap
        have H14 : Hid (Calls Try.prog 14 #[.pointer (some ⟨w1.heap.size, 0, none⟩)] w4 fun e w' => e = .returned (.bool true) ∧ w' = w4) := down_any d4 (by unfold fzS; simp; omega)
        have bt := st4.below YB.out.size TR.out
        have RX : Hid (∃ tg, Dsk w4 tg w1.heap.size (fzS k (i + 1)) ∧ (∀ kk, tg kk ≠ .no → w.heap.size ≤ kk) ∧ Below w.heap.size w w4) := ⟨tg4, d4, bt.2, YB.out.trans bt.1⟩
        clear d4 st4 bt
        go_wp2_with (go_at_call 14; refine H14.out.mono ?_)
        first | rintro e w5 rfl rfl | rintro e w5 ⟨rfl, rfl⟩
        go_wp2_with fail
        refine ⟨⟨i + 1, by omega, by go_num, RX.out⟩, ?_⟩
        simp [intOf]; omega
    · have h1 : ¬ (i : Int) < (k : Int) + 1 + (j : Int) := by omega
      have hki : k < i := by omega
      have DR : Hid (Dsk wr tg w1.heap.size (fzS k i)) := dr
      have TR : Hid (∀ kk, tg kk ≠ .no → w.heap.size ≤ kk) := tr
      have YR : Hid (Below w.heap.size w wr) := yr
      have H19 : Hid (Calls Try.prog 19 #[.pointer (some ⟨w1.heap.size, 0, none⟩), .string ⟨#[102]⟩] wr fun e w' => ∃ v, e = .returned (.tuple #[v, .int .i64 11]) ∧ RdR [] wr w' v) := by
        have := read_any dr ⟨#[102]⟩ (by decide)
        rw [fz_read k i hki] at this
        exact this
      clear dr tr yr
      go_wp2_with (go_at_call 19; refine H19.out.mono ?_)
      first | rintro e w4 v4 rfl hr4 | rintro e w4 ⟨v4, rfl, hr4⟩
      have D4 : Hid (Dsk w4 tg w1.heap.size (fzS k i)) := DR.out.keepB hr4.2
      have Y4 : Hid (Below w.heap.size w w4) := below_from YR.out hr4.2 YR.out.size
      clear hr4
      have H22 : Hid (Calls Try.prog 22 #[.pointer (some ⟨w1.heap.size, 0, none⟩)] w4 fun e w' => ∃ a c, e = .returned (.slice a 0 c) ∧ Below w4.heap.size w4 w') := by
        have := list_any D4.out
        rw [fz_list k i hki] at this
        refine this.mono ?_
        rintro e w' ⟨v, rfl, ho, hb⟩
        obtain ⟨a, c, rfl⟩ := ho.shape
        exact ⟨a, c, rfl, hb⟩
      go_wp2_with (go_at_call 22; refine H22.out.mono ?_)
      first | rintro e w5 a5 c5 rfl b5 | rintro e w5 ⟨a5, c5, rfl, b5⟩
      have D5 : Hid (Dsk w5 tg w1.heap.size (fzS k i)) := D4.out.keepB b5
      have Y5 : Hid (Below w.heap.size w w5) := below_from Y4.out b5 Y4.out.size
      clear b5
      have H17 : Hid (Calls Try.prog 17 #[.pointer (some ⟨w1.heap.size, 0, none⟩), .string ⟨#[102]⟩] w5 fun e w' => e = .returned (.int .i64 11) ∧ ApR w1.heap.size (fzS k i) tg w5 w') := by
        have := sync_any D5.out ⟨#[102]⟩ (by decide)
        rw [fz_sync k i hki] at this
        exact this.mono fun e w' h => ⟨h.1, tg, h.2⟩
      go_wp2_with (go_at_call 17; refine H17.out.mono ?_)
      first | rintro e w6 rfl hap | rintro e w6 ⟨rfl, hap⟩
      obtain ⟨tg6, d6, st6⟩ := hap
      have bt := st6.below Y5.out.size TR.out
      have bb : Below w6.heap.size w6 (w6.alloc (.cells #[.int .u8 127] 5)) := (Below.refl _ w6).alloc (Nat.le_refl _) _
      have tn : tg6 w6.heap.size = .no := by obtain ⟨_, _, _, h⟩ := d6; exact new_no h.lt (Nat.le_refl _)
      have Y6 : Hid (Below w.heap.size w (w6.alloc (.cells #[.int .u8 127] 5))) := below_from (Y5.out.trans bt.1) bb (Y5.out.trans bt.1).size
      have T6 : Hid (∀ kk, tg6 kk ≠ .no → w.heap.size ≤ kk) := bt.2
      have H18 : Hid (Calls Try.prog 18 #[.pointer (some ⟨w1.heap.size, 0, none⟩), .slice (some ⟨w6.heap.size, 0, none⟩) 1 1] (w6.alloc (.cells #[.int .u8 127] 5)) fun e w' => e = .returned (.tuple #[]) ∧ ApR w1.heap.size (fzR k) tg6 (w6.alloc (.cells #[.int .u8 127] 5)) w') := by
        have := restart_any (d6.keepB bb) [127] (some ⟨w6.heap.size, 0, none⟩) 1 1 rfl (Nat.le_refl _) (.inr ⟨_, 0, rfl, row_new (l := [127]), by simp, tn⟩)
        rw [fz_restart k i hki] at this
        exact this.mono fun e w' h => ⟨h.1, tg6, h.2⟩
      clear bt bb tn d6 st6 H17 H22 H19
      go_wp2_with (go_at_call 18; refine H18.out.mono ?_)
      first | rintro e w7 rfl hap | rintro e w7 ⟨rfl, hap⟩
      obtain ⟨tg7, d7, st7⟩ := hap
      have bt := st7.below Y6.out.size T6.out
      have D7 : Hid (Dsk w7 tg7 w1.heap.size (fzR k)) := d7
      have T7 : Hid (∀ kk, tg7 kk ≠ .no → w.heap.size ≤ kk) := bt.2
      have Y7 : Hid (Below w.heap.size w w7) := Y6.out.trans bt.1
      clear bt d7 st7 H18
      cases k with
      | zero =>
        have H19 : Hid (Calls Try.prog 19 #[.pointer (some ⟨w1.heap.size, 0, none⟩), .string ⟨#[102]⟩] w7 fun e w' => ∃ v, e = .returned (.tuple #[v, .int .i64 3]) ∧ RdR [] w7 w' v) := by
          have := read_any D7.out ⟨#[102]⟩ (by decide)
          rw [show (⟨#[102]⟩ : ByteArray).data.toList = [102] from rfl, fz_read0] at this
          exact this
        go_wp2_with (go_at_call 19; refine H19.out.mono ?_)
        first | rintro e w8 v8 rfl hr8 | rintro e w8 ⟨v8, rfl, hr8⟩
        go_wp2_with fail
        go_ret
        exact ⟨rfl, below_from Y7.out hr8.2 Y7.out.size⟩
      | succ k =>
        obtain ⟨rb, hrb, hrl⟩ := fz_read1 k
        have hmod : (127 : Int).tmod ((k : Int) + 1 + 1) = (rb.length : Int) := by
          rw [hrl, Int.tmod_eq_emod_of_nonneg (by omega), Int.natCast_emod]
          rfl
        have H19 : Hid (Calls Try.prog 19 #[.pointer (some ⟨w1.heap.size, 0, none⟩), .string ⟨#[102]⟩] w7 fun e w' => ∃ v, e = .returned (.tuple #[v, .int .i64 0]) ∧ RdR rb w7 w' v) := by
          have := read_any D7.out ⟨#[102]⟩ (by decide)
          rw [show (⟨#[102]⟩ : ByteArray).data.toList = [102] from rfl, hrb] at this
          exact this
        clear hrb hrl
        go_wp2_with (go_at_call 19; refine H19.out.mono ?_)
        first | rintro e w8 v8 rfl hr8 | rintro e w8 ⟨v8, rfl, hr8⟩
        have D8 : Hid (Dsk w8 tg7 w1.heap.size (fzR (k + 1))) := D7.out.keepB hr8.2
        have Y8 : Hid (Below w.heap.size w w8) := below_from Y7.out hr8.2 Y7.out.size
        obtain ⟨a8, c8, hv8, -⟩ := hr8.1.shape
        subst hv8
        clear hr8
        have H14 : Hid (Calls Try.prog 14 #[.pointer (some ⟨w1.heap.size, 0, none⟩)] w8 fun e w' => e = .returned (.bool false) ∧ w' = w8) := down_any D8.out (fz_down _)
        have H17 : Hid (Calls Try.prog 17 #[.pointer (some ⟨w1.heap.size, 0, none⟩), .string ⟨#[102]⟩] w8 fun e w' => e = .returned (.int .i64 0) ∧ Step tg7 tg7 w8 w') := by
          have := sync_any D8.out ⟨#[102]⟩ (by decide)
          rw [show (⟨#[102]⟩ : ByteArray).data.toList = [102] from rfl, fz_sync1] at this
          exact this.mono fun e w' h => ⟨h.1, h.2.2⟩
        go_wp2_with (go_at_call 14; refine H14.out.mono ?_)
        first | rintro e w9 rfl rfl | rintro e w9 ⟨rfl, rfl⟩
        go_wp2_with (go_at_call 17; refine H17.out.mono ?_)
        first | rintro e w10 rfl st10 | rintro e w10 ⟨rfl, st10⟩
        go_wp2_with fail
        go_ret
        exact ⟨rfl, Y8.out.trans (st10.below Y8.out.size T7.out).1⟩
end Go.Proofs.Ytnohidalomjfmaa
