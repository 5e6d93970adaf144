/-
  The law on limits.
-/
import Derived.Test.YtnohidalomjfmaaLm
import Derived.Deep.OwnRows
namespace Go.Proofs.Ytnohidalomjfmaa
open Go.RowKit Go.Maps

theorem enc_le (r : Int) : (Utf8.encode r).size ≤ 4 := by
  unfold Utf8.encode
  dsimp only
  repeat' split
  all_goals first | (show 1 ≤ 4; omega) | (show 2 ≤ 4; omega) | (show 3 ≤ 4; omega) | (show 4 ≤ 4; omega)
theorem conv_rune (n : Int) (w : World) : (convert 21 9 (.int .i32 n)).run Try.prog w = .ok (.string (Utf8.encode n)) w := by
  simp [convert, run_underlying Try.underlying21, run_underlying Try.underlying9, Conv.intToString]
theorem add_str (x y : ByteArray) (h : x.size + y.size ≤ 100) : Op.stringOp .add x y = pure (.string (x ++ y)) := by
  unfold Op.stringOp
  dsimp only
  rw [if_neg]
  have : IntKind.i64.max = 9223372036854775807 := by kernel_rfl
  omega
theorem name_facts (r1 r2 : Nat) : ∃ e1 e2 f1 f2 : ByteArray, (∀ w, (convert 21 9 (.int .i32 (97 + (r1 : Int)))).run Try.prog w = .ok (.string e1) w) ∧ (∀ w, (convert 21 9 (.int .i32 (97 + (r2 : Int)))).run Try.prog w = .ok (.string e2) w) ∧ Op.stringOp .add ⟨#[102]⟩ e1 = pure (.string f1) ∧ Op.stringOp .add f1 e2 = pure (.string f2) ∧ f2.data.toList.length ≤ 281474976710656 := by
  have h1 := enc_le (97 + (r1 : Int))
  have h2 := enc_le (97 + (r2 : Int))
  have h0 : (⟨#[102]⟩ : ByteArray).size = 1 := rfl
  refine ⟨_, _, _, _, conv_rune _, conv_rune _, add_str _ _ (by omega), add_str _ _ (by rw [ByteArray.size_append]; omega), ?_⟩
  rw [← Lib.size_eq, ByteArray.size_append, ByteArray.size_append]
  omega

theorem make6 (w : World) : ∃ O : Obj, Row (w.alloc O) w.heap.size 0 (List.replicate 600000 0) ∧ ∀ w, (Instr.makeSlice 30 (.int .i64 600000) (.int .i64 600000)).run Try.prog w = .ok (.slice (some ⟨w.heap.size, 0, none⟩) 600000 600000) (w.alloc O) := by
  refine ⟨.cells (madeCells #[.int .u8 0] 600000) 5, ?_, fun w => ?_⟩
  · obtain ⟨cs, hb, hsz, hc⟩ := World.rowIs_made w (.int .u8 0) 600000 5
    intro k x hx
    rw [List.getElem?_replicate] at hx
    split at hx
    · rename_i hk
      cases hx
      rw [Nat.zero_add]
      exact (cell_of_row _ _ k cs 5 _ hb).trans (hc k hk)
    · cases hx
  · have h := run_make_row' (P := Try.prog) 30 5 (.int .u8 0) 1 Try.underlying30 info5 rfl .i64 .i64 600000 (by omega) (by omega) w
    rw [show ((600000 : Nat) : Int) = 600000 from rfl] at h
    exact h
theorem HB.row {w0 w : World} {pb rb : Nat} {D E : DK} {O : Obj} {l : List UInt8} (h : HB w0 w pb rb D E none []) (hO : Row (w.alloc O) w.heap.size 0 l) : HB w0 (w.alloc O) pb rb D E (some ⟨w.heap.size, 0, none⟩) l := by
  obtain ⟨tg, rt, h, -, -⟩ := h
  have hsz : w.heap.size < (w.alloc O).heap.size := by simp
  have b : Below w.heap.size w (w.alloc O) := (Below.refl _ w).alloc (Nat.le_refl _) _
  exact ⟨tg, rt, h.keep b, .inr ⟨_, 0, rfl, hO, hsz, no_of fun e => Nat.lt_irrefl _ (h.d.lt e)⟩, .inr ⟨_, 0, rfl, hO, hsz, no_of fun e => Nat.lt_irrefl _ (h.r.lt e)⟩⟩
theorem off_take {w : World} {tg : Nat → Tg} {q : Option Addr} {l : List UInt8} (h : LiesOff w tg q l) (n : Nat) : LiesOff w tg q (l.take n) := by
  rcases h with rfl | ⟨g, o, e, h, h1, h2⟩
  · exact .inl (by simp)
  · refine .inr ⟨g, o, e, fun k x hx => h k x ?_, h1, h2⟩
    rw [List.getElem?_take] at hx
    split at hx
    · exact hx
    · cases hx
set_option maxHeartbeats 2000000 in
set_option maxRecDepth 100000 in
theorem law_limits (a x : Nat) (w : World) (ha : a ≤ 255) (hx : x ≤ 255) :
    Calls Try.prog 7 #[.int .u8 a, .int .u8 x] w fun e w' => e = .returned (.bool true) ∧ Below w.heap.size w w' := by
  have H9 : Hid (∀ w, Calls Try.prog 9 #[] w fun e w' => e = .returned (.bool true) ∧ Below w.heap.size w w') := fun w => awake_any w
  go_enter Try.func7, Try.ntmps7
  go_wp2_with (go_at_call 9; refine (H9.out _).mono ?_)
  rintro e w1 ⟨rfl, b1⟩
  go_wp2_with (go_at_call 11; refine (nw1 w1).mono ?_)
  rintro e w2 ⟨rfl, d2, b2, l2⟩
  have H12 : Hid (Calls Try.prog 12 #[] w2 fun e w' => e = .returned (.pointer (some ⟨w2.heap.size, 0, none⟩)) ∧ HB w w' w1.heap.size w2.heap.size DK.new DK.new none []) := nw2 w w1 w2 b1 d2 b2 l2
  clear d2 b2 l2 b1 H9
  go_wp2_with (go_at_call 12; refine H12.out.mono ?_)
  rintro e w3 ⟨rfl, h3⟩
  generalize w1.heap.size = pb at *
  generalize w2.heap.size = rb at *
  have H3 : Hid (HB w w3 pb rb DK.new DK.new none []) := h3
  clear h3 H12
  have hw : wrap64 (x : Int) = (x : Int) := by unfold wrap64; omega
  go_wp2_with (go_at_call 21; refine (fu1 H3.out _ (by omega)).mono ?_)
  rintro e w4 ⟨rfl, h4⟩
  obtain ⟨rv, rz, rc⟩ := h4.rcell
  obtain ⟨e0, e1, e2⟩ := c3 rc
  have rf := fz rc 1
  have H4 : Hid (∃ D, HB w (w4.setCell ⟨rb, 1, none⟩ (.int .i64 (200 + (x : Int)))) pb rb D D none []) := ⟨_, fu2 h4 (200 + (x : Int)) (200 + (x : Int)) (by omega) (by omega)⟩
  clear h4 rc H3
  have hmod : IntKind.u8.wrap ((a : Int).tmod 8) = ((a % 8 : Nat) : Int) := by
    rw [IntKind.wrap_u8, Int.tmod_eq_emod_of_nonneg (by omega)]
    omega
  obtain ⟨N, hN, hN2⟩ : ∃ N : Nat, 60 + ((a % 8 : Nat) : Int) = (N : Int) ∧ N < 68 := ⟨60 + a % 8, by omega, by omega⟩
  go_wp2_with fail
  go_loopw [7] (fun i wr => ∃ k : Nat, k ≤ N ∧ i = .int .i64 k ∧ ∃ D, HB w wr pb rb D D none []) (fun i _ => N - (intOf i).toNat)
  case atStart => exact ⟨0, Nat.zero_le _, rfl, H4.out⟩
  case round =>
    obtain ⟨k, hk, rfl, D, hD⟩ := hrel
    have HD : Hid (HB w wr pb rb D D none []) := hD
    clear hD H4 e0 e1 e2 rf
    by_cases hlt : k < N
    · have hi : (k : Int) < 60 + ((a % 8 : Nat) : Int) := by omega
      have hi2 : (k : Int) < 60 + (a : Int) % 8 := by omega
      obtain ⟨r1, hr1, hr1b⟩ : ∃ r1 : Nat, (k : Int) % 26 = (r1 : Int) ∧ r1 < 26 := ⟨k % 26, by omega, by omega⟩
      obtain ⟨r2, hr2, hr2b⟩ : ∃ r2 : Nat, (k : Int) / 26 = (r2 : Int) ∧ r2 < 26 := ⟨k / 26, by omega, by omega⟩
      obtain ⟨e1, e2, f1, f2, n1, n2, n3, n4, n5⟩ := name_facts r1 r2
      have HL : Hid (f2.data.toList.length ≤ 281474976710656) := n5
      have H16 : Hid (Calls Try.prog 16 #[.pointer (some ⟨pb, 0, none⟩), .string f2, .slice none 0 0] wr fun e w' => e = .returned (.int .i64 (appendD D f2.data.toList []).1) ∧ HB w w' pb rb (appendD D f2.data.toList []).2 D none []) := ap1 HD.out f2.data.toList n5 none 0 0 [] (by omega) rfl (fun _ => rfl) (fun _ _ => .inl rfl)
      have H24 : Hid (∀ w5, HB w w5 pb rb (appendD D f2.data.toList []).2 D none [] → Calls Try.prog 24 #[.pointer (some ⟨rb, 0, none⟩), .string f2, .slice none 0 0] w5 fun e w' => e = .returned (.int .i64 (appendD D f2.data.toList []).1) ∧ ∃ D', HB w w' pb rb D' D' none []) := fun w5 h5 => by
        refine (ap2 h5 f2.data.toList none 0 0 [] (by omega) rfl (fun _ => rfl) (fun _ _ => .inl rfl)).mono ?_
        rintro e w' ⟨rfl, h⟩
        exact ⟨rfl, _, h⟩
      clear n5
      generalize appendD D f2.data.toList [] = R at *
      go_wp2_with (go_at_call 16; refine H16.out.mono ?_)
      first | rintro e w5 rfl h5 | rintro e w5 ⟨rfl, h5⟩
      have H5 : Hid (HB w w5 pb rb R.2 D none []) := h5
      clear h5 H16
      go_wp2_with (go_at_call 24; refine (H24.out _ H5.out).mono ?_)
      first | rintro e w6 rfl D6 h6 | rintro e w6 ⟨rfl, D6, h6⟩
      go_wp2_with fail
      refine ⟨⟨k + 1, by omega, by go_num, D6, h6⟩, ?_⟩
      simp [intOf]; omega
    · have hi : ¬ (k : Int) < 60 + ((a % 8 : Nat) : Int) := by omega
      have hi2 : ¬ (k : Int) < 60 + (a : Int) % 8 := by omega
      obtain ⟨O, hO, hmk⟩ := make6 wr
      have HB6 : Hid (∃ D, HB w (wr.alloc O) pb rb D D (some ⟨wr.heap.size, 0, none⟩) (List.replicate 600000 0)) := by
        exact ⟨D, HD.out.row hO⟩
      clear HD hO
      obtain ⟨G, hG⟩ : ∃ G, wr.heap.size = G := ⟨_, rfl⟩
      obtain ⟨L, hL⟩ : ∃ L : List UInt8, List.replicate 600000 0 = L := ⟨_, rfl⟩
      have LL : Hid (L.length = 600000) := by rw [← hL]; exact List.length_replicate
      rw [hG, hL] at HB6
      clear hL
      go_upto_region 14 with fail
      clear hG hmk
      generalize wr.alloc O = W6 at *
      clear hi hi2 hlt
      go_wp2_with fail
      go_loopw [10] (fun i wr => ∃ k : Nat, k ≤ 3 ∧ i = .int .i64 k ∧ ∃ D, HB w wr pb rb D D (some ⟨G, 0, none⟩) L) (fun i _ => 3 - (intOf i).toNat)
      case atStart => exact ⟨0, Nat.zero_le _, rfl, HB6.out⟩
      case round =>
        clear HB6
        obtain ⟨k, hk, rfl, D, hD⟩ := hrel
        have HD : Hid (HB w wr pb rb D D (some ⟨G, 0, none⟩) L) := hD
        clear hD
        by_cases hlt : k < 3
        · have hi : (k : Int) < 3 := by omega
          have H16 : Hid (Calls Try.prog 16 #[.pointer (some ⟨pb, 0, none⟩), .string ⟨#[102, 97, 97]⟩, .slice (some ⟨G, 0, none⟩) 600000 600000] wr fun e w' => e = .returned (.int .i64 (appendD D [102, 97, 97] L).1) ∧ HB w w' pb rb (appendD D [102, 97, 97] L).2 D (some ⟨G, 0, none⟩) L) := ap1 HD.out [102, 97, 97] (by decide) (some ⟨G, 0, none⟩) 600000 600000 L (by omega) LL.out nofun (fun _ h => h)
          have H24 : Hid (∀ w5, HB w w5 pb rb (appendD D [102, 97, 97] L).2 D (some ⟨G, 0, none⟩) L → Calls Try.prog 24 #[.pointer (some ⟨rb, 0, none⟩), .string ⟨#[102, 97, 97]⟩, .slice (some ⟨G, 0, none⟩) 600000 600000] w5 fun e w' => e = .returned (.int .i64 (appendD D [102, 97, 97] L).1) ∧ ∃ D', HB w w' pb rb D' D' (some ⟨G, 0, none⟩) L) := fun w5 h5 => by
            refine (ap2 h5 [102, 97, 97] (some ⟨G, 0, none⟩) 600000 600000 L (by omega) LL.out nofun (fun _ h => h)).mono ?_
            rintro e w' ⟨rfl, h⟩
            exact ⟨rfl, _, h⟩
          generalize appendD D [102, 97, 97] L = R at *
          go_wp2_with (go_at_call 16; refine H16.out.mono ?_)
          first | rintro e w5 rfl h5 | rintro e w5 ⟨rfl, h5⟩
          have H5 : Hid (HB w w5 pb rb R.2 D (some ⟨G, 0, none⟩) L) := h5
          clear h5 H16
          go_wp2_with (go_at_call 24; refine (H24.out _ H5.out).mono ?_)
          first | rintro e w6 rfl D6 h6 | rintro e w6 ⟨rfl, D6, h6⟩
          go_wp2_with fail
          refine ⟨⟨k + 1, by omega, by go_num, D6, h6⟩, ?_⟩
          simp [intOf]; omega
        · have hi : ¬ (k : Int) < 3 := by omega
          have L4 : Hid ((L.take 448576).length = 448576) := by
            refine (?_ : _ = _)
            rw [List.length_take, LL.out]
            rfl
          have H25 : Hid (Calls Try.prog 25 #[.pointer (some ⟨pb, 0, none⟩), .string ⟨#[102, 97, 97]⟩, .int .i64 600001] wr.drew fun e w' => e = .returned (.int .i64 (truncD D [102, 97, 97] 600001).1) ∧ HB w w' pb rb (truncD D [102, 97, 97] 600001).2 D (some ⟨G, 0, none⟩) L) := tr1 (HD.out.keep (Below.refl _ _).drew) [102, 97, 97] (by decide) 600001
          have H26 : Hid (∀ w5, HB w w5 pb rb (truncD D [102, 97, 97] 600001).2 D (some ⟨G, 0, none⟩) L → Calls Try.prog 26 #[.pointer (some ⟨rb, 0, none⟩), .string ⟨#[102, 97, 97]⟩, .int .i64 600001] w5 fun e w' => e = .returned (.int .i64 (truncD D [102, 97, 97] 600001).1) ∧ HB w w' pb rb (truncD D [102, 97, 97] 600001).2 (truncD D [102, 97, 97] 600001).2 (some ⟨G, 0, none⟩) L) := fun w5 h5 => tr2 h5 [102, 97, 97] 600001
          generalize truncD D [102, 97, 97] 600001 = R at *
          have H16 : Hid (∀ w5, HB w w5 pb rb R.2 R.2 (some ⟨G, 0, none⟩) L → Calls Try.prog 16 #[.pointer (some ⟨pb, 0, none⟩), .string ⟨#[102, 97, 97]⟩, .slice (some ⟨G, 0, none⟩) 448576 600000] w5 fun e w' => e = .returned (.int .i64 (appendD R.2 [102, 97, 97] (L.take 448576)).1) ∧ HB w w' pb rb (appendD R.2 [102, 97, 97] (L.take 448576)).2 R.2 (some ⟨G, 0, none⟩) L) := fun w5 h5 => ap1 h5 [102, 97, 97] (by decide) (some ⟨G, 0, none⟩) 448576 600000 (L.take 448576) (by omega) L4.out nofun (fun _ h => off_take h _)
          have H24 : Hid (∀ w5, HB w w5 pb rb (appendD R.2 [102, 97, 97] (L.take 448576)).2 R.2 (some ⟨G, 0, none⟩) L → Calls Try.prog 24 #[.pointer (some ⟨rb, 0, none⟩), .string ⟨#[102, 97, 97]⟩, .slice (some ⟨G, 0, none⟩) 448576 600000] w5 fun e w' => e = .returned (.int .i64 (appendD R.2 [102, 97, 97] (L.take 448576)).1) ∧ ∃ D', HB w w' pb rb D' D' (some ⟨G, 0, none⟩) L) := fun w5 h5 => by
            refine (ap2 h5 [102, 97, 97] (some ⟨G, 0, none⟩) 448576 600000 (L.take 448576) (by omega) L4.out nofun (fun _ h => off_take h _)).mono ?_
            rintro e w' ⟨rfl, h⟩
            exact ⟨rfl, _, h⟩
          generalize appendD R.2 [102, 97, 97] (L.take 448576) = T at *
          clear LL L4 HD
          go_wp2_with fail
          go_cut [81] from 66 to 81 (fun s81 wx => s81 = .bool false ∧ Hid (∃ D, HB w wx pb rb D D (some ⟨G, 0, none⟩) L))
          case first =>
            go_region_held3 (fun _ : World => True) (first | trivial | go_keep) (first | (go_at_call 25; refine H25.out.mono ?_; rintro e w5 ⟨rfl, h5⟩; have G5 : Hid (HB w w5 pb rb R.2 D (some ⟨G, 0, none⟩) L) := h5; clear h5) | (go_at_call 26; refine (H26.out _ G5.out).mono ?_; rintro e w6 ⟨rfl, h6⟩; have G6 : Hid (HB w w6 pb rb R.2 R.2 (some ⟨G, 0, none⟩) L) := h6; clear h6) | (go_at_call 16; refine (H16.out _ G6.out).mono ?_; rintro e w7 ⟨rfl, h7⟩; have G7 : Hid (HB w w7 pb rb T.2 R.2 (some ⟨G, 0, none⟩) L) := h7; clear h7) | (go_at_call 24; refine (H24.out _ G7.out).mono ?_; rintro e w8 ⟨rfl, h8⟩; have G8 : Hid (∃ D, HB w w8 pb rb D D (some ⟨G, 0, none⟩) L) := h8; clear h8))
            all_goals (go_wp2_with fail; go_meet)
            all_goals exact ⟨rfl, G8⟩
          case rest =>
            obtain ⟨rfl, H8⟩ := hcut
            clear H25 H26 H16 H24 hi hlt hk
            go_wp2_with fail
            go_loopw [11] (fun i wr => ∃ k : Nat, k ≤ 300 ∧ i = .int .i64 k ∧ ∃ D, HB w wr pb rb D D (some ⟨G, 0, none⟩) L) (fun i _ => 300 - (intOf i).toNat)
            case atStart => exact ⟨0, Nat.zero_le _, rfl, H8.out⟩
            case round =>
              clear H8
              obtain ⟨k', hk, rfl, D', hD⟩ := hrel
              have HD : Hid (HB w wr pb rb D' D' (some ⟨G, 0, none⟩) L) := hD
              clear hD
              by_cases hlt : k' < 300
              · have hi : (k' : Int) < 300 := by omega
                have H1 : Hid (Calls Try.prog 17 #[.pointer (some ⟨pb, 0, none⟩), .string ⟨#[102, 97, 97]⟩] wr fun e w' => e = .returned (.int .i64 (syncD D' [102, 97, 97]).1) ∧ HB w w' pb rb (syncD D' [102, 97, 97]).2 D' (some ⟨G, 0, none⟩) L) := sy1 HD.out [102, 97, 97] (by decide)
                have H2 : Hid (∀ w5, HB w w5 pb rb (syncD D' [102, 97, 97]).2 D' (some ⟨G, 0, none⟩) L → Calls Try.prog 27 #[.pointer (some ⟨rb, 0, none⟩), .string ⟨#[102, 97, 97]⟩] w5 fun e w' => e = .returned (.int .i64 (syncD D' [102, 97, 97]).1) ∧ HB w w' pb rb (syncD D' [102, 97, 97]).2 (syncD D' [102, 97, 97]).2 (some ⟨G, 0, none⟩) L) := fun w5 h5 => sy2 h5 [102, 97, 97]
                generalize syncD D' [102, 97, 97] = S at *
                have H3 : Hid (∀ w5, HB w w5 pb rb S.2 S.2 (some ⟨G, 0, none⟩) L → Calls Try.prog 17 #[.pointer (some ⟨pb, 0, none⟩), .string ⟨#[110, 111, 110, 101]⟩] w5 fun e w' => e = .returned (.int .i64 (syncD S.2 [110, 111, 110, 101]).1) ∧ HB w w' pb rb (syncD S.2 [110, 111, 110, 101]).2 S.2 (some ⟨G, 0, none⟩) L) := fun w5 h5 => sy1 h5 [110, 111, 110, 101] (by decide)
                have H4 : Hid (∀ w5, HB w w5 pb rb (syncD S.2 [110, 111, 110, 101]).2 S.2 (some ⟨G, 0, none⟩) L → Calls Try.prog 27 #[.pointer (some ⟨rb, 0, none⟩), .string ⟨#[110, 111, 110, 101]⟩] w5 fun e w' => e = .returned (.int .i64 (syncD S.2 [110, 111, 110, 101]).1) ∧ ∃ D, HB w w' pb rb D D (some ⟨G, 0, none⟩) L) := fun w5 h5 => by
                  refine (sy2 h5 [110, 111, 110, 101]).mono ?_
                  rintro e w' ⟨rfl, h⟩
                  exact ⟨rfl, _, h⟩
                generalize syncD S.2 [110, 111, 110, 101] = V at *
                go_wp2_with (go_at_call 17; refine H1.out.mono ?_)
                first | rintro e w5 rfl h5 | rintro e w5 ⟨rfl, h5⟩
                have G5 : Hid (HB w w5 pb rb S.2 D' (some ⟨G, 0, none⟩) L) := h5
                clear h5 H1
                go_wp2_with (go_at_call 27; refine (H2.out _ G5.out).mono ?_)
                first | rintro e w6 rfl h6 | rintro e w6 ⟨rfl, h6⟩
                have G6 : Hid (HB w w6 pb rb S.2 S.2 (some ⟨G, 0, none⟩) L) := h6
                clear h6 H2
                go_wp2_with (go_at_call 17; refine (H3.out _ G6.out).mono ?_)
                first | rintro e w7 rfl h7 | rintro e w7 ⟨rfl, h7⟩
                have G7 : Hid (HB w w7 pb rb V.2 S.2 (some ⟨G, 0, none⟩) L) := h7
                clear h7 H3
                go_wp2_with (go_at_call 27; refine (H4.out _ G7.out).mono ?_)
                first | rintro e w8 rfl D8 h8 | rintro e w8 ⟨rfl, D8, h8⟩
                go_wp2_with fail
                refine ⟨⟨k' + 1, by omega, by go_num, D8, h8⟩, ?_⟩
                simp [intOf]; omega
              · have hi : ¬ (k' : Int) < 300 := by omega
                obtain ⟨rv, rz, rc⟩ := HD.out.rcell
                obtain ⟨m0, m1, m2⟩ := c3 rc
                clear rc
                have H14 : Hid (Calls Try.prog 14 #[.pointer (some ⟨pb, 0, none⟩)] wr.drew fun e w' => e = .returned (.bool D'.down) ∧ w' = wr.drew) := dn1 (HD.out.keep (Below.refl _ _).drew)
                go_wp2_with fail
                go_region_with (go_at_call 14; refine H14.out.mono ?_; rintro e w9 ⟨rfl, rfl⟩)
                all_goals go_wp2_with fail
                all_goals go_ret
                all_goals exact ⟨rfl, below_drewN HD.out.below 1⟩
end Go.Proofs.Ytnohidalomjfmaa
