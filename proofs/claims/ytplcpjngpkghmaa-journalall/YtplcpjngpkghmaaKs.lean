/-
  The law of a crash at each operation.
-/
import Derived.Test.YtplcpjngpkghmaaKr
namespace Go.Proofs.Ytplcpjngpkghmaa
open Go.RowKit Go.Maps

theorem take_all {l : List RC} {k : Nat} {r : RC} (h : l[k]? = some r) (hA : ∀ x ∈ l.take k, x.b.length ≤ 1000) (hr : r.b.length ≤ 1000) : ∀ x ∈ l.take (k + 1), x.b.length ≤ 1000 := by
  obtain ⟨hk, rfl⟩ := List.getElem?_eq_some_iff.1 h
  rw [List.take_succ_eq_append_getElem hk]
  intro x hx
  rcases List.mem_append.1 hx with hx | hx
  · exact hA x hx
  · simp only [List.mem_singleton] at hx
    subst hx
    exact hr
set_option maxHeartbeats 8000000 in
set_option maxRecDepth 100000 in
theorem jall_law (q q' a : Option Addr) (m m' c c' n d : Nat) (l l' : List RC) (ch : List UInt8) (w : World) (hl : Hid (l.length = m)) (hl' : Hid (l'.length = m')) (hP : Hid (Pcs w q l)) (hP' : Hid (Pcs w q' l')) (hb : Hid (ch.length = n)) (hL : Hid (Lies w a ch)) (hnd : Hid (n ≤ d)) :
    Calls Try.prog 4 #[.slice q m c, .slice q' m' c', .slice a n d] w fun e w' => e = .returned (.bool true) ∧ Below w.heap.size w w' := by
  have H9 : Hid (∀ w, Calls Try.prog 9 #[] w fun e w' => e = .returned (.bool true) ∧ Below w.heap.size w w') := fun w => awake_any w
  go_enter Try.func4, Try.ntmps4
  go_wp2_with (go_at_call 9; refine (H9.out _).mono ?_)
  rintro e w1 ⟨rfl, b1⟩
  have y1 : Hid (Below w.heap.size w w1) := b1
  clear b1
  by_cases hbig : (10 : Int) < (m : Int)
  · go_wp2_with (go_at_call 9; refine (H9.out _).mono ?_)
    rintro e w3 ⟨rfl, b3⟩
    go_wp2_with fail
    go_ret
    exact ⟨rfl, below_from y1.out b3 y1.out.size⟩
  have hm10 : (m : Int) ≤ 10 := by omega
  clear hbig
  by_cases hbig : (6 : Int) < (m' : Int)
  · go_wp2_with (go_at_call 9; refine (H9.out _).mono ?_)
    rintro e w3 ⟨rfl, b3⟩
    go_wp2_with fail
    go_ret
    exact ⟨rfl, below_from y1.out b3 y1.out.size⟩
  have hm6 : (m' : Int) ≤ 6 := by omega
  clear hbig
  go_wp2_with fail
  go_loopw [7] (fun i wr => ∃ k : Nat, k ≤ m + m' ∧ i = .int .i64 k ∧ (∀ r ∈ l.take k, r.b.length ≤ 1000) ∧ (∀ r ∈ l'.take (k - m), r.b.length ≤ 1000) ∧ wr = w1) (fun i _ => m + m' - (intOf i).toNat)
  case atStart => exact ⟨0, Nat.zero_le _, rfl, by simp, by simp, rfl⟩
  case round =>
    obtain ⟨k, hk, rfl, hA, hB, rfl⟩ := hrel
    have KA : Hid (∀ r ∈ l.take k, r.b.length ≤ 1000) := hA
    have KB : Hid (∀ r ∈ l'.take (k - m), r.b.length ≤ 1000) := hB
    clear hA hB
    by_cases hlt : k < m + m'
    · have hs : (k : Int) < (m : Int) + (m' : Int) := by omega
      by_cases hkm : k < m
      · obtain ⟨r, g, o, hr0, rfl, hc⟩ := (hP.out.keep y1.out).at (k := k) (by have := hl.out; omega)
        have hi : (k : Int) < (m : Int) := by omega
        by_cases h10 : r.b.length ≤ 1000
        · have h10' : (r.b.length : Int) ≤ 1000 := by omega
          have HN : Hid ((∀ x ∈ l.take (k + 1), x.b.length ≤ 1000) ∧ (∀ x ∈ l'.take (k + 1 - m), x.b.length ≤ 1000)) := ⟨take_all hr0 KA.out h10, by rw [show k + 1 - m = 0 by omega]; simp⟩
          clear hr0 KA KB h10
          go_wp2_with fail
          exact ⟨⟨k + 1, by omega, by go_num, HN.out.1, HN.out.2, trivial⟩, by simp [intOf]; omega⟩
        · have h10' : 1000 < (r.b.length : Int) := by omega
          clear hr0 KA KB h10
          go_wp2_with fail
          go_ret
          exact ⟨rfl, y1.out⟩
      · obtain ⟨j, rfl⟩ : ∃ j, k = m + j := ⟨k - m, by omega⟩
        obtain ⟨r, g, o, hr0, rfl, hc⟩ := (hP'.out.keep y1.out).at (k := j) (by have := hl'.out; omega)
        have hi : ¬ ((m + j : Nat) : Int) < (m : Int) := by omega
        have hi2 : (m : Int) ≤ ((m + j : Nat) : Int) := by omega
        have hj : ((m + j : Nat) : Int) - (m : Int) = (j : Int) := by omega
        have hj2 : (j : Int) < (m' : Int) := by omega
        by_cases h10 : r.b.length ≤ 1000
        · have h10' : (r.b.length : Int) ≤ 1000 := by omega
          have HN : Hid ((∀ x ∈ l.take (m + j + 1), x.b.length ≤ 1000) ∧ (∀ x ∈ l'.take (m + j + 1 - m), x.b.length ≤ 1000)) := ⟨fun x hx => KA.out x (by rw [List.take_of_length_le (by have := hl.out; omega)] at hx ⊢; exact hx), by
            rw [show m + j + 1 - m = j + 1 by omega]
            refine take_all hr0 ?_ h10
            have := KB.out
            rwa [show m + j - m = j by omega] at this⟩
          clear hr0 KA KB h10
          go_wp2_with fail
          exact ⟨⟨m + j + 1, by omega, by go_num, HN.out.1, HN.out.2, trivial⟩, by simp [intOf]; omega⟩
        · have h10' : 1000 < (r.b.length : Int) := by omega
          clear hr0 KA KB h10
          go_wp2_with fail
          go_ret
          exact ⟨rfl, y1.out⟩
    · have hs : ¬ (k : Int) < (m : Int) + (m' : Int) := by omega
      have AL : Hid (∀ r ∈ l, r.b.length ≤ 1000) := by
        have := KA.out
        rw [List.take_of_length_le (by have := hl.out; omega)] at this
        exact this
      have AL' : Hid (∀ r ∈ l', r.b.length ≤ 1000) := by
        have := KB.out
        rw [List.take_of_length_le (by have := hl'.out; omega)] at this
        exact this
      clear KA KB
      go_wp2_with fail
      go_loopw [8] (fun i wr => ∃ k : Nat, k ≤ 20 ∧ i = .int .i64 k ∧ Below w.heap.size w wr) (fun i _ => 20 - (intOf i).toNat)
      case atStart => exact ⟨0, Nat.zero_le _, rfl, y1.out⟩
      case round =>
        obtain ⟨kk, hk20, rfl, hb0⟩ := hrel
        have B0 : Hid (Below w.heap.size w wr) := hb0
        clear hb0
        by_cases hlt20 : ¬ kk < 20
        · have hi : ¬ (kk : Int) < 20 := by omega
          go_wp2_with fail
          go_ret
          exact ⟨rfl, B0.out⟩
        have hi : (kk : Int) < 20 := by omega
        go_wp2_with (go_at_call 11; refine (new_law w wr B0.out).mono ?_)
        first | rintro e w2 pb rfl tg2 d2 t2 b2 | rintro e w2 ⟨pb, rfl, tg2, d2, t2, b2⟩
        have H12 : Hid (Calls Try.prog 12 #[.pointer (some ⟨pb, 0, none⟩), .slice none 0 0] w2 fun e w' => e = .returned (.pointer (some ⟨w2.heap.size, 0, none⟩)) ∧ Fre w w' pb w2.heap.size) := by
          refine (opened_fresh (P := NoP) _ b2 d2 t2 nofun).mono ?_
          rintro e w' ⟨rfl, tg', lt, j⟩
          exact ⟨rfl, tg', lt, j⟩
        clear d2 t2 b2
        go_wp2_with (go_at_call 12; refine H12.out.mono ?_)
        first | rintro e w3 rfl h3 | rintro e w3 ⟨rfl, h3⟩
        generalize w2.heap.size = lb at *
        have H13 : Hid (Calls Try.prog 13 #[] w3 fun e w' => e = .returned (.pointer (some ⟨w3.heap.size, 0, none⟩)) ∧ Run w w' pb lb w3.heap.size 0) := run_new h3
        clear h3 H12
        go_wp2_with (go_at_call 13; refine H13.out.mono ?_)
        first | rintro e w4 rfl R4 | rintro e w4 ⟨rfl, R4⟩
        generalize w3.heap.size = rb at *
        have A4 : Hid (Run w w4 pb lb rb 0) := R4
        clear R4 H13
        go_wp2_with fail
        go_loopw [12] (fun i wr => ∃ j : Nat, j ≤ m ∧ i = .int .i64 j ∧ Run w wr pb lb rb (1100 * j)) (fun i _ => m - (intOf i).toNat)
        case atStart => exact ⟨0, Nat.zero_le _, rfl, A4.out⟩
        case round =>
          obtain ⟨j, hjm, rfl, hR⟩ := hrel
          have R5 : Hid (Run w wr pb lb rb (1100 * j)) := hR
          clear hR
          by_cases hj : j < m
          · obtain ⟨r, g, o, hr0, rfl, hc⟩ := (hP.out.keep R5.out.below).at (k := j) (by have := hl.out; omega)
            have hi2 : (j : Int) < (m : Int) := by omega
            have H18 : Hid (Calls Try.prog 18 #[.pointer (some ⟨lb, 0, none⟩), .pointer (some ⟨rb, 0, none⟩), .agg #[.int .i64 1, .int .i64 0, .slice r.a r.b.length r.c]] wr fun e w' => e = .returned (.bool true) ∧ Run w w' pb lb rb (1100 * (j + 1))) := by
              have he := hP.out.each r (List.mem_of_getElem? hr0)
              have h10 := AL.out r (List.mem_of_getElem? hr0)
              refine (run_append R5.out (by omega) 0 r he.1 he.2).mono ?_
              rintro e w' ⟨rfl, h⟩
              exact ⟨rfl, h.mono (by omega)⟩
            clear hr0
            go_wp2_with (go_at_call 18; refine H18.out.mono ?_)
            first | rintro e w6 rfl R6 | rintro e w6 ⟨rfl, R6⟩
            go_wp2_with fail
            exact ⟨⟨j + 1, by omega, by go_num, R6⟩, by simp [intOf]; omega⟩
          · have hi2 : ¬ (j : Int) < (m : Int) := by omega
            have hjm' : j = m := by omega
            subst hjm'
            have H18 : Hid (Calls Try.prog 18 #[.pointer (some ⟨lb, 0, none⟩), .pointer (some ⟨rb, 0, none⟩), .agg #[.int .i64 2, .int .i64 0, .slice none 0 0]] wr fun e w' => e = .returned (.bool true) ∧ Run w w' pb lb rb 11000) := by
              refine (run_sync R5.out 0 none 0 0).mono ?_
              rintro e w' ⟨rfl, h⟩
              exact ⟨rfl, h.mono (by omega)⟩
            clear R5
            go_wp2_with (go_at_call 18; refine H18.out.mono ?_)
            first | rintro e w6 rfl R6 | rintro e w6 ⟨rfl, R6⟩
            have H14 : Hid (Calls Try.prog 14 #[.pointer (some ⟨pb, 0, none⟩), .int .i64 kk] w6 fun e w' => e = .returned (.tuple #[]) ∧ Run w w' pb lb rb 11000) := run_fuse R6 kk (by omega)
            clear R6 H18
            go_wp2_with (go_at_call 14; refine H14.out.mono ?_)
            first | rintro e w7 rfl R7 | rintro e w7 ⟨rfl, R7⟩
            have A7 : Hid (Run w w7 pb lb rb 11000) := R7
            clear R7 H14
            go_wp2_with fail
            go_loopw [13] (fun i wr => ∃ j : Nat, j ≤ m' ∧ i = .int .i64 j ∧ Run w wr pb lb rb (11000 + 1100 * j)) (fun i _ => m' - (intOf i).toNat)
            case atStart => exact ⟨0, Nat.zero_le _, rfl, A7.out⟩
            case round =>
              obtain ⟨i', him, rfl, hR⟩ := hrel
              have R8 : Hid (Run w wr pb lb rb (11000 + 1100 * i')) := hR
              clear hR
              by_cases hj' : i' < m'
              · obtain ⟨r, g, o, hr0, rfl, hc⟩ := (hP'.out.keep R8.out.below).at (k := i') (by have := hl'.out; omega)
                have hi3 : (i' : Int) < (m' : Int) := by omega
                have H18 : Hid (Calls Try.prog 18 #[.pointer (some ⟨lb, 0, none⟩), .pointer (some ⟨rb, 0, none⟩), .agg #[.int .i64 1, .int .i64 0, .slice r.a r.b.length r.c]] wr fun e w' => e = .returned (.bool true) ∧ Run w w' pb lb rb (11000 + 1100 * (i' + 1))) := by
                  have he := hP'.out.each r (List.mem_of_getElem? hr0)
                  have h10 := AL'.out r (List.mem_of_getElem? hr0)
                  refine (run_append R8.out (by omega) 0 r he.1 he.2).mono ?_
                  rintro e w' ⟨rfl, h⟩
                  exact ⟨rfl, h.mono (by omega)⟩
                clear hr0
                go_wp2_with (go_at_call 18; refine H18.out.mono ?_)
                first | rintro e w9 rfl R9 | rintro e w9 ⟨rfl, R9⟩
                go_wp2_with fail
                exact ⟨⟨i' + 1, by omega, by go_num, R9⟩, by simp [intOf]; omega⟩
              · have hi3 : ¬ (i' : Int) < (m' : Int) := by omega
                have H18 : Hid (Calls Try.prog 18 #[.pointer (some ⟨lb, 0, none⟩), .pointer (some ⟨rb, 0, none⟩), .agg #[.int .i64 3, .int .i64 kk, .slice none 0 0]] wr fun e w' => e = .returned (.bool true) ∧ Hid (Run w w' pb lb rb 20000)) := by
                  refine (run_trim R8.out (by omega) kk none 0 0).mono ?_
                  rintro e w' ⟨rfl, h⟩
                  exact ⟨rfl, h.mono (by omega)⟩
                have H18b : Hid (∀ W, Run w W pb lb rb 20000 → Calls Try.prog 18 #[.pointer (some ⟨lb, 0, none⟩), .pointer (some ⟨rb, 0, none⟩), .agg #[.int .i64 2, .int .i64 0, .slice none 0 0]] W fun e w' => e = .returned (.bool true) ∧ Hid (Run w w' pb lb rb 20000)) := fun W h => run_sync h 0 none 0 0
                clear R8
                go_wp2_with (go_at_call_of 18 (Value.int .i64 3); refine H18.out.mono ?_)
                first | rintro e w9 rfl R9 | rintro e w9 ⟨rfl, R9⟩
                go_wp2_with (go_at_call 18; refine (H18b.out _ R9.out).mono ?_)
                first | rintro e w10 rfl R10 | rintro e w10 ⟨rfl, R10⟩
                have H15 : Hid (Calls Try.prog 15 #[.pointer (some ⟨pb, 0, none⟩), .slice a n d] w10 fun e w' => e = .returned (.tuple #[]) ∧ Hid (Cra w w' pb rb 20000)) := run_restart R10.out a n d ch hb.out hnd.out hL.out
                clear R9 R10 H18 H18b
                go_wp2_with (go_at_call 15; refine H15.out.mono ?_)
                first | rintro e w11 rfl R11 | rintro e w11 ⟨rfl, R11⟩
                have H12 : Hid (Calls Try.prog 12 #[.pointer (some ⟨pb, 0, none⟩), .slice a n d] w11 fun e w' => e = .returned (.pointer (some ⟨w11.heap.size, 0, none⟩)) ∧ Hid (Cam w w' pb w11.heap.size rb 20000)) := cra_opened R11.out (by omega) _
                clear R11 H15
                go_wp2_with (go_at_call 12; refine H12.out.mono ?_)
                first | rintro e w12 rfl R12 | rintro e w12 ⟨rfl, R12⟩
                generalize w11.heap.size = lb2 at *
                have H16 : Hid (Calls Try.prog 16 #[.pointer (some ⟨lb2, 0, none⟩), .pointer (some ⟨rb, 0, none⟩)] w12 fun e w' => e = .returned (.bool true) ∧ Hid (Run w w' pb lb2 rb 20000)) := cam_came R12.out
                clear R12 H12
                go_wp2_with (go_at_call 16; refine H16.out.mono ?_)
                first | rintro e w13 rfl R13 | rintro e w13 ⟨rfl, R13⟩
                go_wp2_with fail
                exact ⟨⟨kk + 1, by omega, by go_num, R13.out.below⟩, by simp [intOf]; omega⟩
end Go.Proofs.Ytplcpjngpkghmaa
