/-
  The law of two heaps that are melded.
-/
import Derived.Test.YtmcmldlnmmbbgaaMc
import Derived.Test.YtmcmldlnmmbbgaaPq
namespace Go.Proofs.Ytmcmldlnmmbbgaa
open Go.RowKit Go.Maps

set_option maxHeartbeats 8000000 in
set_option maxRecDepth 100000 in
theorem melds_law (q q' : Option Addr) (m c m' c' : Nat) (ks ks' : List K) (w : World) (hl : Hid (ks.length = m)) (hK : Hid (Kys w q ks)) (hl' : Hid (ks'.length = m')) (hK' : Hid (Kys w q' ks')) :
    Calls Try.prog 6 #[.slice q m c, .slice q' m' c'] w fun e w' => e = .returned (.bool true) ∧ Below w.heap.size w w' := by
  have H8 : Hid (∀ w, Calls Try.prog 8 #[] w fun e w' => e = .returned (.bool true) ∧ Below w.heap.size w w') := fun w => awake_any w
  have H9 : Hid (∀ w, Calls Try.prog 9 #[] w fun e w' => e = .returned (.pointer (some ⟨w.heap.size, 0, none⟩)) ∧ Hid (w' = w.alloc (.cells zeroH 70))) := fun w => new_at w
  go_enter Try.func6, Try.ntmps6
  go_wp2_with (go_at_call 8; refine (H8.out _).mono ?_)
  rintro e w1 ⟨rfl, b1⟩
  have y1 : Hid (Below w.heap.size w w1) := b1
  clear b1
  by_cases hbig : (300 : Int) < (m : Int)
  · go_wp2_with (go_at_call 8; refine (H8.out _).mono ?_)
    rintro e w3 ⟨rfl, b3⟩
    go_wp2_with fail
    go_ret
    exact ⟨rfl, below_from y1.out b3 y1.out.size⟩
  by_cases hbig' : (300 : Int) < (m' : Int)
  · go_wp2_with (go_at_call 8; refine (H8.out _).mono ?_)
    rintro e w3 ⟨rfl, b3⟩
    go_wp2_with fail
    go_ret
    exact ⟨rfl, below_from y1.out b3 y1.out.size⟩
  have hm3 : (m : Int) ≤ 300 := by omega
  have hm4 : (m' : Int) ≤ 300 := by omega
  clear hbig hbig'
  go_wp2_with (go_at_call 9; refine (H9.out _).mono ?_)
  first | rintro e w2 rfl E2 | rintro e w2 ⟨rfl, E2⟩
  go_wp2_with (go_at_call 9; refine (H9.out _).mono ?_)
  first | rintro e w3 rfl E3 | rintro e w3 ⟨rfl, E3⟩
  go_wp2_with (go_at_call 9; refine (H9.out _).mono ?_)
  first | rintro e w4 rfl E4 | rintro e w4 ⟨rfl, E4⟩
  have T0 : Hid (Tri w w4 w1.heap.size w2.heap.size w3.heap.size Ct.nil 0 0 Ct.nil 0 0 Ct.nil 0 0 NoT) := by
    have s2 : w2.heap.size = w1.heap.size + 1 := by rw [E2.out]; simp
    have s3 : w3.heap.size = w2.heap.size + 1 := by rw [E3.out]; simp
    have n2 : Blk w2 w1.heap.size 70 32 zH := by rw [E2.out]; exact new_blk w1
    have n3 : Blk w3 w2.heap.size 70 32 zH := by rw [E3.out]; exact new_blk w2
    have n4 : Blk w4 w3.heap.size 70 32 zH := by rw [E4.out]; exact new_blk w3
    have n2' : Blk w4 w1.heap.size 70 32 zH := by rw [E4.out]; refine blk_alloc ?_ _; rw [E3.out]; exact blk_alloc n2 _
    have n3' : Blk w4 w2.heap.size 70 32 zH := by rw [E4.out]; exact blk_alloc n3 _
    have z := y1.out.size
    refine tri_new n2' n3' n4 (by omega) (by omega) (by omega) (by omega) (by omega) (by omega) ?_
    rw [E4.out]
    refine Below.alloc ?_ (by omega) _
    rw [E3.out]
    refine Below.alloc ?_ (by omega) _
    rw [E2.out]
    exact y1.out.alloc y1.out.size _
  clear E2 E3 E4 y1 H8 H9
  generalize w1.heap.size = a at *
  generalize w2.heap.size = b at *
  generalize w3.heap.size = cc at *
  go_wp2_with fail
  go_loopw [8, 9] (fun nv iv wr => ∃ (n i : Nat) (C : Ct), n ≤ i ∧ i ≤ m ∧ nv = .int .i64 n ∧ iv = .int .i64 i ∧ Tri w wr a b cc C n n Ct.nil 0 0 C n n NoT) (fun _ iv _ => m - (intOf iv).toNat)
  case atStart => exact ⟨0, 0, Ct.nil, Nat.le_refl _, Nat.zero_le _, rfl, rfl, T0.out⟩
  case round =>
    obtain ⟨n, i, C, hni, him, rfl, rfl, hL⟩ := hrel
    have L3 : Hid (Tri w wr a b cc C n n Ct.nil 0 0 C n n NoT) := hL
    clear hL T0
    by_cases hi : i < m
    · have hi' : (i : Int) < (m : Int) := by omega
      obtain ⟨k, g, f, hk0, rfl, hin, z0, z1, z2⟩ := hK.out.at (k := i) (by have := hl.out; omega)
      have x0 := keep1c' L3.out.below z0
      have x1 := keep1c' L3.out.below z1
      have x2 := keep1c' L3.out.below z2
      have Z1 : Hid (∀ w1, Below w.heap.size w w1 → w1.cell? ⟨g, f + i * 3, none⟩ = some (.int .u64 k.n) ∧ w1.cell? ⟨g, f + i * 3 + 1, none⟩ = some (.int .u64 k.d) ∧ w1.cell? ⟨g, f + i * 3 + 2, none⟩ = some (.int .i64 k.t)) := fun w1 b1 => ⟨keep1c' b1 z0, keep1c' b1 z1, keep1c' b1 z2⟩
      clear hk0 z0 z1 z2
      by_cases hd : k.d = 0
      · have H14 : Hid (∀ (hb : Nat) (w1 : World), Calls Try.prog 14 #[.pointer (some ⟨hb, 0, none⟩), .agg #[.int .u64 k.n, .int .u64 k.d, .int .i64 k.t]] w1 fun e w' => e = .returned (.tuple #[.int .i64 0, .int .i64 4]) ∧ Hid (Below w1.heap.size w1 w')) := fun hb w1 => by rw [hd]; exact insert_form hb k.n k.t w1
        clear hin hd
        go_wp2_with (go_at_call 14; refine (H14.out _ _).mono ?_)
        first | rintro e w4 rfl b4 | rintro e w4 ⟨rfl, b4⟩
        have L4 : Hid (Tri w w4 a b cc C n n Ct.nil 0 0 C n n NoT) := L3.out.keep b4.out
        obtain ⟨x3, x4, x5⟩ := Z1.out _ L4.out.below
        clear x0 x1 x2 L3
        go_wp2_with (go_at_call 14; refine (H14.out _ _).mono ?_)
        first | rintro e w5 rfl b5 | rintro e w5 ⟨rfl, b5⟩
        go_wp2_with fail
        exact ⟨⟨n, i + 1, C, by omega, by omega, rfl, by go_num, L4.out.keep b5.out⟩, by simp [intOf]; omega⟩
      · have hok : k.ok := ⟨hin.n, hin.d, hd⟩
        have H14 : Hid (Calls Try.prog 14 #[.pointer (some ⟨a, 0, none⟩), .agg #[.int .u64 k.n, .int .u64 k.d, .int .i64 k.t]] wr fun e w' => e = .returned (.tuple #[.int .i64 n, .int .i64 0]) ∧ Hid (Tri w w' a b cc (C.put n k) (n + 1) (n + 1) Ct.nil 0 0 C n n NoT)) := by
          refine (tri_insert L3.out k hok (by omega) (by omega)).mono ?_
          rintro e w' ⟨rfl, h1, _⟩
          exact ⟨rfl, h1⟩
        have HO : Hid k.ok := hok
        clear hin hok hd
        go_wp2_with (go_at_call 14; refine H14.out.mono ?_)
        first | rintro e w4 rfl L4 | rintro e w4 ⟨rfl, L4⟩
        obtain ⟨x3, x4, x5⟩ := Z1.out _ L4.out.below
        clear x0 x1 x2 H14
        have H14 : Hid (Calls Try.prog 14 #[.pointer (some ⟨cc, 0, none⟩), .agg #[.int .u64 k.n, .int .u64 k.d, .int .i64 k.t]] w4 fun e w' => e = .returned (.tuple #[.int .i64 n, .int .i64 0]) ∧ Hid (Tri w w' a b cc (C.put n k) (n + 1) (n + 1) Ct.nil 0 0 (C.put n k) (n + 1) (n + 1) NoT)) := by
          refine (tri_insert L4.out.turn.turn k HO.out (by omega) (by omega)).mono ?_
          rintro e w' ⟨rfl, h1, _⟩
          exact ⟨rfl, h1.turn⟩
        go_wp2_with (go_at_call 14; refine H14.out.mono ?_)
        first | rintro e w5 rfl L5 | rintro e w5 ⟨rfl, L5⟩
        go_wp2_with fail
        exact ⟨⟨n + 1, i + 1, C.put n k, by omega, by omega, by go_num, by go_num, L5.out⟩, by simp [intOf]; omega⟩
    · have hi' : ¬ (i : Int) < (m : Int) := by omega
      have hn1 : n ≤ 300 := by omega
      clear hi
      have T1 : Hid (Tri w wr a b cc C n n Ct.nil 0 0 (C.meld n Ct.nil) (n + 0) (n + 0) NoT) := by rw [L3.out.nil]; exact L3.out
      clear L3
      go_wp2_with fail
      go_loopw [12] (fun iv wr => ∃ (n2 i : Nat) (C2 : Ct), n2 ≤ i ∧ i ≤ m' ∧ iv = .int .i64 i ∧ Tri w wr a b cc C n n C2 n2 n2 (C.meld n C2) (n + n2) (n + n2) NoT) (fun iv _ => m' - (intOf iv).toNat)
      case atStart => exact ⟨0, 0, Ct.nil, Nat.le_refl _, Nat.zero_le _, rfl, T1.out⟩
      case round =>
        obtain ⟨n2, i2, C2, hni2, him2, rfl, hL2⟩ := hrel
        have L6 : Hid (Tri w wr a b cc C n n C2 n2 n2 (C.meld n C2) (n + n2) (n + n2) NoT) := hL2
        clear hL2 T1
        by_cases hi2 : i2 < m'
        · have hi2' : (i2 : Int) < (m' : Int) := by omega
          obtain ⟨k, g, f, hk0, rfl, hin, z0, z1, z2⟩ := hK'.out.at (k := i2) (by have := hl'.out; omega)
          have x0 := keep1c' L6.out.below z0
          have x1 := keep1c' L6.out.below z1
          have x2 := keep1c' L6.out.below z2
          have Z1 : Hid (∀ w1, Below w.heap.size w w1 → w1.cell? ⟨g, f + i2 * 3, none⟩ = some (.int .u64 k.n) ∧ w1.cell? ⟨g, f + i2 * 3 + 1, none⟩ = some (.int .u64 k.d) ∧ w1.cell? ⟨g, f + i2 * 3 + 2, none⟩ = some (.int .i64 k.t)) := fun w1 b1 => ⟨keep1c' b1 z0, keep1c' b1 z1, keep1c' b1 z2⟩
          clear hk0 z0 z1 z2
          by_cases hd : k.d = 0
          · have H14 : Hid (∀ (hb : Nat) (w1 : World), Calls Try.prog 14 #[.pointer (some ⟨hb, 0, none⟩), .agg #[.int .u64 k.n, .int .u64 k.d, .int .i64 k.t]] w1 fun e w' => e = .returned (.tuple #[.int .i64 0, .int .i64 4]) ∧ Hid (Below w1.heap.size w1 w')) := fun hb w1 => by rw [hd]; exact insert_form hb k.n k.t w1
            clear hin hd
            go_wp2_with (go_at_call 14; refine (H14.out _ _).mono ?_)
            first | rintro e w4 rfl b4 | rintro e w4 ⟨rfl, b4⟩
            have L7 := L6.out.keep b4.out
            have L7' : Hid (Tri w w4 a b cc C n n C2 n2 n2 (C.meld n C2) (n + n2) (n + n2) NoT) := L7
            obtain ⟨x3, x4, x5⟩ := Z1.out _ L7.below
            clear x0 x1 x2 L6 L7
            go_wp2_with (go_at_call 14; refine (H14.out _ _).mono ?_)
            first | rintro e w5 rfl b5 | rintro e w5 ⟨rfl, b5⟩
            go_wp2_with fail
            exact ⟨⟨n2, i2 + 1, C2, by omega, by omega, by go_num, L7'.out.keep b5.out⟩, by simp [intOf]; omega⟩
          · have hok : k.ok := ⟨hin.n, hin.d, hd⟩
            have H14 : Hid (Calls Try.prog 14 #[.pointer (some ⟨b, 0, none⟩), .agg #[.int .u64 k.n, .int .u64 k.d, .int .i64 k.t]] wr fun e w' => e = .returned (.tuple #[.int .i64 n2, .int .i64 0]) ∧ Hid (Tri w w' b cc a (C2.put n2 k) (n2 + 1) (n2 + 1) (C.meld n C2) (n + n2) (n + n2) C n n NoT)) := by
              refine (tri_insert L6.out.turn k hok (by omega) (by omega)).mono ?_
              rintro e w' ⟨rfl, h1, _⟩
              exact ⟨rfl, h1⟩
            have HO : Hid k.ok := hok
            clear hin hok hd
            go_wp2_with (go_at_call 14; refine H14.out.mono ?_)
            first | rintro e w4 rfl L4 | rintro e w4 ⟨rfl, L4⟩
            obtain ⟨x3, x4, x5⟩ := Z1.out _ L4.out.below
            clear x0 x1 x2 H14
            have H14 : Hid (Calls Try.prog 14 #[.pointer (some ⟨cc, 0, none⟩), .agg #[.int .u64 k.n, .int .u64 k.d, .int .i64 k.t]] w4 fun e w' => e = .returned (.tuple #[.int .i64 ((n + n2 : Nat) : Int), .int .i64 0]) ∧ Hid (Tri w w' a b cc C n n (C2.put n2 k) (n2 + 1) (n2 + 1) (C.meld n (C2.put n2 k)) (n + (n2 + 1)) (n + (n2 + 1)) NoT)) := by
              refine (tri_insert L4.out.turn k HO.out (by omega) (by omega)).mono ?_
              rintro e w' ⟨rfl, h1, _⟩
              rw [meld_put] at h1
              exact ⟨rfl, h1.turn⟩
            go_wp2_with (go_at_call 14; refine H14.out.mono ?_)
            first | rintro e w5 rfl L5 | rintro e w5 ⟨rfl, L5⟩
            go_wp2_with fail
            exact ⟨⟨n2 + 1, i2 + 1, C2.put n2 k, by omega, by omega, by go_num, L5.out⟩, by simp [intOf]; omega⟩
        · have hi2' : ¬ (i2 : Int) < (m' : Int) := by omega
          have hn2 : n2 ≤ 300 := by omega
          clear hi2
          have H21 : Hid (Calls Try.prog 21 #[.pointer (some ⟨a, 0, none⟩), .pointer (some ⟨b, 0, none⟩)] wr fun e w' => e = .returned (.tuple #[.int .i64 n, .int .i64 0]) ∧ Hid (Tri w w' a b cc (C.meld n C2) (n + n2) (n + n2) Ct.nil 0 0 (C.meld n C2) (n + n2) (n + n2) NoT)) := tri_meld L6.out (by omega) (by omega)
          clear L6
          go_wp2_with (go_at_call 21; refine H21.out.mono ?_)
          first | rintro e w6 rfl L7 | rintro e w6 ⟨rfl, L7⟩
          generalize C.meld n C2 = D at *
          have HG : Hid (n + n2 ≤ 600) := by show _ ≤ _; omega
          obtain ⟨N, hN⟩ : ∃ N, N = n + n2 := ⟨_, rfl⟩
          rw [← hN] at L7 HG
          clear hN
          have H11a : Hid (Calls Try.prog 11 #[.pointer (some ⟨a, 0, none⟩)] w6 fun e w' => e = .returned (.int .i64 N) ∧ w' = w6) := tri_len L7.out
          have H11b : Hid (Calls Try.prog 11 #[.pointer (some ⟨b, 0, none⟩)] w6 fun e w' => e = .returned (.int .i64 (0 : Nat)) ∧ w' = w6) := tri_len L7.out.turn
          have H11c : Hid (Calls Try.prog 11 #[.pointer (some ⟨cc, 0, none⟩)] w6 fun e w' => e = .returned (.int .i64 N) ∧ w' = w6) := tri_len L7.out.turn.turn
          clear H21
          go_wp2_with (go_at_call 11; refine H11b.out.mono ?_)
          first | rintro e w7 rfl E7 | rintro e w7 ⟨rfl, E7⟩
          rw [E7]
          clear E7 w7
          go_wp2_with (go_at_call 11; refine H11a.out.mono ?_)
          first | rintro e w7 rfl E7 | rintro e w7 ⟨rfl, E7⟩
          rw [E7]
          clear E7 w7
          go_wp2_with (go_at_call 11; refine H11c.out.mono ?_)
          first | rintro e w7 rfl E7 | rintro e w7 ⟨rfl, E7⟩
          rw [E7]
          clear E7 w7
          go_upto_region 22 with fail
          have L8 : Hid (Tri w (w6.alloc (.cells #[.int .u64 0, .int .u64 1, .int .i64 0] 37)) a b cc D N N Ct.nil 0 0 D N N NoT) := L7.out.keep (by go_grown)
          have Y8 : (w6.alloc (.cells #[.int .u64 0, .int .u64 1, .int .i64 0] 37)).heap[w6.heap.size]? = some (.cells #[.int .u64 0, .int .u64 1, .int .i64 0] 37 (0, 0)) := new0
          generalize w6.alloc (.cells #[.int .u64 0, .int .u64 1, .int .i64 0] 37) = W8 at *
          obtain ⟨p0, p1, p2⟩ := c3 Y8
          generalize w6.heap.size = bx at *
          clear Y8 L7 H11a H11b H11c
          have H14 : Hid (Calls Try.prog 14 #[.pointer (some ⟨b, 0, none⟩), .agg #[.int .u64 0, .int .u64 1, .int .i64 0]] W8 fun e w' => e = .returned (.tuple #[.int .i64 0, .int .i64 0]) ∧ Hid (∃ CB, Tri w w' a b cc D N N CB 1 1 D N N NoT)) := by
            refine (tri_insert L8.out.turn ⟨0, 1, 0⟩ ⟨by decide, by decide, by decide⟩ (by decide) (by decide)).mono ?_
            rintro e w' ⟨rfl, h1, _⟩
            exact ⟨rfl, _, h1.turn.turn⟩
          clear L8
          go_wp2_with (go_at_call 14; refine H14.out.mono ?_)
          first | rintro e w9 rfl L9 | rintro e w9 ⟨rfl, L9⟩
          clear p0 p1 p2 H14
          have H11 : Hid (Calls Try.prog 11 #[.pointer (some ⟨cc, 0, none⟩)] w9 fun e w' => e = .returned (.int .i64 N) ∧ w' = w9) := by
            obtain ⟨CB, h9⟩ := L9.out
            exact tri_len h9.turn.turn
          go_wp2_with (go_at_call 11; refine H11.out.mono ?_)
          first | rintro e w7 rfl E7 | rintro e w7 ⟨rfl, E7⟩
          rw [E7]
          clear E7 w7 H11
          go_wp2_with fail
          go_loopw [18] (fun rv wr => (∃ (r : Nat) (D CB : Ct), r ≤ 600 ∧ rv = .int .i64 r ∧ Tri w wr a b cc D N r CB 1 1 D N r NoT) ∨ (rv = .int .i64 (-1) ∧ Below w.heap.size w wr)) (fun rv _ => (intOf rv + 1).toNat)
          case atStart =>
            obtain ⟨CB, h9⟩ := L9.out
            exact .inl ⟨N, D, CB, HG.out, rfl, h9⟩
          case round =>
            clear L9
            rcases hrel with ⟨r, D2, CB, hr, rfl, hT⟩ | ⟨rfl, hB⟩
            · have L10 : Hid (Tri w wr a b cc D2 N r CB 1 1 D2 N r NoT) := hT
              clear hT
              have hr0 : (0 : Int) ≤ (r : Int) := by omega
              by_cases hz : r = 0
              · subst hz
                have H15 : Hid (Calls Try.prog 15 #[.pointer (some ⟨a, 0, none⟩)] wr fun e w' => e = .returned (.tuple #[.int .i64 0, .agg #[.int .u64 0, .int .u64 0, .int .i64 0], .int .i64 3]) ∧ Hid (Below wr.heap.size wr w')) := tri_pop0 L10.out
                go_wp2_with (go_at_call 15; refine H15.out.mono ?_)
                first | rintro e w4 rfl b4 | rintro e w4 ⟨rfl, b4⟩
                go_upto_region 29 with fail
                have Y5 : Hid ((w4.alloc (.cells #[.int .u64 0, .int .u64 0, .int .i64 0] 37)).heap[w4.heap.size]? = some (.cells #[.int .u64 0, .int .u64 0, .int .i64 0] 37 (0, 0))) := new0
                have H16 : Hid (Calls Try.prog 15 #[.pointer (some ⟨cc, 0, none⟩)] (w4.alloc (.cells #[.int .u64 0, .int .u64 0, .int .i64 0] 37)) fun e w' => e = .returned (.tuple #[.int .i64 0, .agg #[.int .u64 0, .int .u64 0, .int .i64 0], .int .i64 3]) ∧ Hid (Below w.heap.size w w' ∧ w'.heap[w4.heap.size]? = some (.cells #[.int .u64 0, .int .u64 0, .int .i64 0] 37 (0, 0)))) := by
                  have T4 := (L10.out.keep b4.out).keep (w' := w4.alloc (.cells #[.int .u64 0, .int .u64 0, .int .i64 0] 37)) (by go_grown)
                  refine (tri_pop0 T4.turn.turn).mono ?_
                  rintro e w' ⟨rfl, b⟩
                  exact ⟨rfl, below_from T4.below b T4.below.size, at_below b (Nat.le_refl _) Y5.out⟩
                generalize w4.alloc (.cells #[.int .u64 0, .int .u64 0, .int .i64 0] 37) = W5 at *
                generalize w4.heap.size = b1 at *
                clear H15 b4 Y5
                go_wp2_with (go_at_call 15; refine H16.out.mono ?_)
                first | rintro e w5 rfl b5 | rintro e w5 ⟨rfl, b5⟩
                have Y6 : Hid ((w5.alloc (.cells #[.int .u64 0, .int .u64 0, .int .i64 0] 37)).heap[w5.heap.size]? = some (.cells #[.int .u64 0, .int .u64 0, .int .i64 0] 37 (0, 0))) := new0
                have Y7 : Hid ((w5.alloc (.cells #[.int .u64 0, .int .u64 0, .int .i64 0] 37)).heap[b1]? = some (.cells #[.int .u64 0, .int .u64 0, .int .i64 0] 37 (0, 0))) := at_alloc b5.out.2
                go_upto_region 30 with fail
                have HB : Hid (Below w.heap.size w (w5.alloc (.cells #[.int .u64 0, .int .u64 0, .int .i64 0] 37))) := b5.out.1.alloc b5.out.1.size _
                clear L10
                generalize w5.alloc (.cells #[.int .u64 0, .int .u64 0, .int .i64 0] 37) = W6 at *
                generalize w5.heap.size = b2 at *
                obtain ⟨q0, q1, q2⟩ := c3 Y6.out
                obtain ⟨q3, q4, q5⟩ := c3 Y7.out
                clear Y6 Y7 b5 H16
                go_wp2_with fail
                exact ⟨.inr ⟨by go_num, HB.out⟩, by simp [intOf]⟩
              · obtain ⟨x, k, hmin, hok, hpop⟩ := tri_pop L10.out hz (by omega)
                have H15 : Hid (Calls Try.prog 15 #[.pointer (some ⟨a, 0, none⟩)] wr fun e w' => e = .returned (.tuple #[.int .i64 x, .agg #[.int .u64 k.n, .int .u64 k.d, .int .i64 k.t], .int .i64 0]) ∧ Hid (Tri w w' a b cc (D2.del x) N (r - 1) CB 1 1 D2 N r NoT)) := by
                  refine hpop.mono ?_
                  rintro e w' ⟨rfl, h1, _⟩
                  exact ⟨rfl, h1⟩
                have HM : Hid (D2.min x k) := hmin
                clear hpop hmin hok
                go_wp2_with (go_at_call 15; refine H15.out.mono ?_)
                first | rintro e w4 rfl b4 | rintro e w4 ⟨rfl, b4⟩
                go_upto_region 29 with fail
                have Y5 : Hid ((w4.alloc (.cells #[.int .u64 k.n, .int .u64 k.d, .int .i64 k.t] 37)).heap[w4.heap.size]? = some (.cells #[.int .u64 k.n, .int .u64 k.d, .int .i64 k.t] 37 (0, 0))) := new0
                have H16 : Hid (Calls Try.prog 15 #[.pointer (some ⟨cc, 0, none⟩)] (w4.alloc (.cells #[.int .u64 k.n, .int .u64 k.d, .int .i64 k.t] 37)) fun e w' => e = .returned (.tuple #[.int .i64 x, .agg #[.int .u64 k.n, .int .u64 k.d, .int .i64 k.t], .int .i64 0]) ∧ Hid (Tri w w' a b cc (D2.del x) N (r - 1) CB 1 1 (D2.del x) N (r - 1) NoT ∧ w'.heap[w4.heap.size]? = some (.cells #[.int .u64 k.n, .int .u64 k.d, .int .i64 k.t] 37 (0, 0)))) := by
                  have T4 := b4.out.box (.cells #[.int .u64 k.n, .int .u64 k.d, .int .i64 k.t] 37)
                  obtain ⟨x', k', hmin', _, hpop'⟩ := tri_pop T4.turn.turn hz (by omega)
                  obtain ⟨rfl, rfl⟩ := min_unique HM.out hmin'
                  refine hpop'.mono ?_
                  rintro e w' ⟨rfl, h1, h2⟩
                  exact ⟨rfl, (h1.turn).less (fun _ q => q.elim), (h2 _ (.inr rfl)).trans Y5.out⟩
                generalize w4.alloc (.cells #[.int .u64 k.n, .int .u64 k.d, .int .i64 k.t] 37) = W5 at *
                generalize w4.heap.size = b1 at *
                clear H15 b4 Y5
                go_wp2_with (go_at_call 15; refine H16.out.mono ?_)
                first | rintro e w5 rfl b5 | rintro e w5 ⟨rfl, b5⟩
                have Y6 : Hid ((w5.alloc (.cells #[.int .u64 k.n, .int .u64 k.d, .int .i64 k.t] 37)).heap[w5.heap.size]? = some (.cells #[.int .u64 k.n, .int .u64 k.d, .int .i64 k.t] 37 (0, 0))) := new0
                have Y7 : Hid ((w5.alloc (.cells #[.int .u64 k.n, .int .u64 k.d, .int .i64 k.t] 37)).heap[b1]? = some (.cells #[.int .u64 k.n, .int .u64 k.d, .int .i64 k.t] 37 (0, 0))) := at_alloc b5.out.2
                go_upto_region 30 with fail
                have HT : Hid (Tri w (w5.alloc (.cells #[.int .u64 k.n, .int .u64 k.d, .int .i64 k.t] 37)) a b cc (D2.del x) N (r - 1) CB 1 1 (D2.del x) N (r - 1) NoT) := b5.out.1.keep (by go_grown)
                clear L10
                generalize w5.alloc (.cells #[.int .u64 k.n, .int .u64 k.d, .int .i64 k.t] 37) = W6 at *
                generalize w5.heap.size = b2 at *
                obtain ⟨q0, q1, q2⟩ := c3 Y6.out
                obtain ⟨q3, q4, q5⟩ := c3 Y7.out
                clear Y6 Y7 b5 H16
                go_wp2_with fail
                exact ⟨.inl ⟨r - 1, D2.del x, CB, by omega, by congr 1; omega, HT.out⟩, by simp only [intOf]; omega⟩
            · have hr0 : ¬ (0 : Int) ≤ -1 := by decide
              have HB : Hid (Below w.heap.size w wr) := hB
              clear hB
              go_wp2_with fail
              go_ret
              exact ⟨rfl, HB.out⟩
end Go.Proofs.Ytmcmldlnmmbbgaa
