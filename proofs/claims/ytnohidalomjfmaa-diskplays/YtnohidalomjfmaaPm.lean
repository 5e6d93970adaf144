/-
  The law 'DiskPlays': the walk.
-/
import Derived.Test.YtnohidalomjfmaaPl
namespace Go.Proofs.Ytnohidalomjfmaa
open Go.RowKit Go.Maps

theorem hb_both {w0 w : World} {pb rb : Nat} {D : DK} {q : Option Addr} {l : List UInt8} (h : HB w0 w pb rb D D q l) : Both w0 w pb rb D := by obtain ⟨tg, rt, h, _⟩ := h; exact ⟨tg, rt, h⟩
theorem both_hb {w0 w : World} {pb rb : Nat} {D : DK} (h : Both w0 w pb rb D) : HB w0 w pb rb D D none [] := by obtain ⟨tg, rt, h⟩ := h; exact ⟨tg, rt, h, .inl rfl, .inl rfl⟩
theorem scr_keep {w w' : World} {g off : Nat} {L : List OpR} (h : Scr w g off L) (b : Below w.heap.size w w') : Scr w' g off L :=
  ⟨h.1.keep b (Nat.le_refl _), fun o ho => by have := h.2 o ho; exact ⟨this.hn, this.hs, this.ht, this.hm, this.hq, this.hL.keep b (Nat.le_refl _)⟩⟩

set_option maxHeartbeats 2000000 in
set_option maxRecDepth 100000 in
theorem law_plays (L : List OpR) (g off n c : Nat) (w : World) (hl : Hid (L.length = n)) (hn : n < 1152921504606846976) (hb : Hid (∀ o ∈ L, o.m < 1152921504606846976)) (hr : Hid (Scr w g off L)) :
    Calls Try.prog 3 #[.slice (some ⟨g, off, none⟩) n c] w fun e w' => e = .returned (.bool true) ∧ Below w.heap.size w w' := by
  have H9 : Hid (∀ w, Calls Try.prog 9 #[] w fun e w' => e = .returned (.bool true) ∧ Below w.heap.size w w') := fun w => awake_any w
  go_enter Try.func3, Try.ntmps3
  go_wp2_with (go_at_call 9; refine (H9.out _).mono ?_)
  rintro e w1 ⟨rfl, b1⟩
  have y1 : Hid (Below w.heap.size w w1) := b1
  clear b1
  go_wp2_with (go_at_call 10; refine (few_some L g off c n w1 hl.out hn hb.out (scr_keep hr.out y1.out).1).mono ?_)
  rintro e w2 hfew
  obtain ⟨bb, rfl, rfl, hfew⟩ := hfew
  cases bb with
  | false =>
    go_wp2_with (go_at_call 9; refine (H9.out _).mono ?_)
    rintro e w3 ⟨rfl, b3⟩
    go_wp2_with fail
    go_ret
    exact ⟨rfl, below_from y1.out b3 y1.out.size⟩
  | true =>
    have HF : Hid (∀ o ∈ L, o.m ≤ 200000) := hfew rfl
    clear hfew
    go_wp2_with (go_at_call 11; refine (nw1 w2).mono ?_)
    rintro e w3 ⟨rfl, d3, b3, l3⟩
    have H12 : Hid (Calls Try.prog 12 #[] w3 fun e w' => e = .returned (.pointer (some ⟨w3.heap.size, 0, none⟩)) ∧ HB w w' w2.heap.size w3.heap.size DK.new DK.new none []) := nw2 w w2 w3 y1.out d3 b3 l3
    clear d3 b3 l3 H9 y1
    go_wp2_with (go_at_call 12; refine H12.out.mono ?_)
    rintro e w4 ⟨rfl, h4⟩
    generalize w2.heap.size = pb at *
    generalize w3.heap.size = rb at *
    have H4 : Hid (∃ D, Both w w4 pb rb D) := ⟨_, hb_both h4⟩
    clear h4 H12
    go_wp2_with fail
    go_loopw [5] (fun i wr => ∃ k : Nat, k ≤ n ∧ i = .int .i64 k ∧ ∃ D, Both w wr pb rb D) (fun i _ => n - (intOf i).toNat)
    case atStart => exact ⟨0, Nat.zero_le _, rfl, H4.out⟩
    case round =>
      clear H4
      obtain ⟨k, hk, rfl, D, hD⟩ := hrel
      have HD : Hid (Both w wr pb rb D) := hD
      clear hD
      by_cases hlt : k < n
      · have hi : (k : Int) < (n : Int) := by omega
        obtain ⟨o, ho⟩ : ∃ o, L[k]? = some o := ⟨L[k]'(by have := hl.out; omega), List.getElem?_eq_getElem _⟩
        have hS := scr_keep hr.out (both_below HD.out)
        obtain ⟨x0, x1, x2, x3, x4⟩ := scr_at hS.1 ho
        have hO := hS.2 o (List.mem_of_getElem? ho)
        have hmm := HF.out o (List.mem_of_getElem? ho)
        have H13 : Hid (Calls Try.prog 13 #[.pointer (some ⟨pb, 0, none⟩), .pointer (some ⟨rb, 0, none⟩), .agg #[.int .i64 o.kd, .int .i64 o.n, .string ⟨⟨o.s⟩⟩, .string ⟨⟨o.t⟩⟩, .slice o.q o.m o.c]] wr.drew fun e w' => e = .returned (.bool true) ∧ ∃ D', Both w w' pb rb D') := step_any (HD.out.keep (Below.refl _ _).drew) o.kd o.n o.s o.t o.q o.m o.c o.mb hO.hn hO.hs hO.ht hO.hm hO.hq (hO.hL.keep (Below.refl wr.heap.size wr).drew (Nat.le_refl _)) (by omega)
        have HK : Hid (∀ w5, (∃ D', Both w w5 pb rb D') → ∃ D' rv rz, Both w w5 pb rb D' ∧ w5.heap[rb]? = some (.cells #[rv, .int .i64 rz, .bool D'.down] 35 (0, 0)) ∧ Calls Try.prog 14 #[.pointer (some ⟨pb, 0, none⟩)] w5 (fun e w' => e = .returned (.bool D'.down) ∧ w' = w5)) := fun w5 ⟨D', h5⟩ => by
          obtain ⟨rv, rz, rc⟩ := (both_hb h5).rcell
          exact ⟨D', rv, rz, h5, rc, dn1 (both_hb h5)⟩
        have OO : Hid (L[k]? = some o) := ho
        clear ho hS hO hmm
        go_wp2_with fail
        go_cut [38] from 22 to 38 (fun s38 wx => s38 = .bool false ∧ Hid (∃ D', Both w wx pb rb D'))
        case first =>
          go_region_with (first | (go_at_call 13; refine H13.out.mono ?_; rintro e w5 ⟨rfl, h5⟩; obtain ⟨D5, rv5, rz5, g5, rc5, k5⟩ := HK.out w5 h5; obtain ⟨n0, n1, n2⟩ := c3 rc5; have G5 : Hid (Both w w5 pb rb D5) := g5; have K5 : Hid (Calls Try.prog 14 #[.pointer (some ⟨pb, 0, none⟩)] w5 (fun e w' => e = .returned (.bool D5.down) ∧ w' = w5)) := k5; clear h5 g5 rc5 k5) | (go_at_call 14; refine K5.out.mono ?_; rintro e w6 ⟨rfl, rfl⟩))
          all_goals (go_wp2_with fail; go_meet)
          all_goals exact ⟨rfl, D5, G5.out⟩
        case rest =>
          obtain ⟨rfl, H8⟩ := hcut
          go_wp2_with fail
          refine ⟨⟨k + 1, by omega, by go_num, H8.out⟩, ?_⟩
          simp [intOf]; omega
      · have hi : ¬ (k : Int) < (n : Int) := by omega
        go_wp2_with (go_at_call 15; refine (all_any HD.out).mono ?_)
        first | rintro e w5 rfl b5 | rintro e w5 ⟨rfl, b5⟩
        go_wp2_with fail
        go_ret
        exact ⟨rfl, b5⟩
end Go.Proofs.Ytnohidalomjfmaa
