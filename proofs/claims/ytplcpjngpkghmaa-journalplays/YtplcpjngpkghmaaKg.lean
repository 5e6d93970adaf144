/-
  The journal's Get out of range; the law's same.
-/
import Derived.Test.YtplcpjngpkghmaaKf
namespace Go.Proofs.Ytplcpjngpkghmaa
open Go.RowKit Go.Maps
variable {P : Nat → Obj → Prop}

set_option maxHeartbeats 1000000 in
theorem get_no {w0 w : World} {pb lb first : Nat} {D : DK} {pt : Option Addr} {l : List RC} {tg lt : Nat → Tg} (h : Hid (LJ P w0 w pb lb D pt first l tg lt)) (n : Int) (hn : n < first ∨ (first : Int) + l.length ≤ n) :
    Calls Try.prog 23 #[.pointer (some ⟨lb, 0, none⟩), .int .i64 n] w fun e w' => e = .returned (.tuple #[.slice none 0 0, .int .i64 2]) ∧ Below w.heap.size w w' := by
  obtain ⟨v, hg⟩ := h.out.g
  obtain ⟨q, c, rfl⟩ := lg_slice hg
  have H1 : Hid (Calls Try.prog 21 #[.pointer (some ⟨lb, 0, none⟩)] w fun e w' => e = .returned (.int .i64 first) ∧ w' = w) := first_at w lb _ _ _ hg.cell
  have H2 : Hid (Calls Try.prog 22 #[.pointer (some ⟨lb, 0, none⟩)] w fun e w' => e = .returned (.int .i64 ((first : Int) + l.length)) ∧ Below w.heap.size w w') := next_at w lb _ _ _ _ _ (by omega) (by have := hg.bd; omega) hg.cell
  clear hg
  by_cases h0 : n < first
  · clear hn
    go_enter Try.func23, Try.ntmps23
    go_wp2_with (first | (go_at_call 21; refine H1.out.mono ?_; rintro e w1 ⟨rfl, rfl⟩) | (go_at_call 22; refine H2.out.mono ?_; rintro e w2 ⟨rfl, b2⟩))
    all_goals go_ret2
    all_goals exact ⟨rfl, Below.refl _ _⟩
  · have h1 : (first : Int) ≤ n := by omega
    have h2 : (first : Int) + l.length ≤ n := by omega
    clear h0 hn
    go_enter Try.func23, Try.ntmps23
    go_wp2_with (first | (go_at_call 21; refine H1.out.mono ?_; rintro e w1 ⟨rfl, rfl⟩) | (go_at_call 22; refine H2.out.mono ?_))
    first | rintro e w2 rfl b2 | rintro e w2 ⟨rfl, b2⟩
    go_wp2_with fail
    all_goals go_ret2
    all_goals exact ⟨rfl, b2⟩
set_option maxHeartbeats 400000 in
theorem rsame_any (l m : List UInt8) (a b : Option Addr) (c d : Nat) (w : World) (hl : l.length < 1152921504606846976) (ha : Lies w a l) (hb : Lies w b m) :
    Calls Try.prog 41 #[.slice a l.length c, .slice b m.length d] w fun e w' => e = .returned (.bool (decide (l = m))) ∧ Below w.heap.size w w' := by
  have H : Hid (Calls Try.prog 24 #[.slice a l.length c, .slice b m.length d] w fun e w' => e = .returned (.bool (decide (l = m))) ∧ Below w.heap.size w w') := same_any l m a b c d w hl ha hb
  go_enter Try.func41, Try.ntmps41
  go_wp2_with (go_at_call 24; refine H.out.mono ?_)
  rintro e w1 ⟨rfl, b1⟩
  go_wp2_with fail
  go_ret
  exact ⟨rfl, b1⟩
/-- both logs tell the same -/
structure SmL (first : Nat) (l : List RC) (R : RL) : Prop where
  f : R.first = first
  n : R.next = first + l.length
  e : ∀ (k : Nat) (r : RC), l[k]? = some r → ∃ r', R.all[first + k]? = some r' ∧ r'.b = r.b
set_option maxHeartbeats 8000000 in
set_option maxRecDepth 100000 in
theorem same_at {w0 w : World} {pb lb rb first : Nat} {D : DK} {pt : Option Addr} {l : List RC} {tg lt : Nat → Tg} {R : RL} {v : Value} (h : Hid (Bo w0 w pb lb rb D pt first l tg lt R v)) (hS : Hid (SmL first l R)) :
    Calls Try.prog 19 #[.pointer (some ⟨lb, 0, none⟩), .pointer (some ⟨rb, 0, none⟩)] w fun e w' => e = .returned (.bool true) ∧ Below w.heap.size w w' := by
  obtain ⟨u, hg⟩ := h.out.j.g
  obtain ⟨q, c, rfl⟩ := lg_slice hg
  have hbd := hg.bd
  obtain ⟨e0, e1, e2, e3, e4, e5, e6⟩ := k7 h.out.r.cell
  rw [hS.out.f] at e1
  rw [hS.out.n] at e2
  have H1 : Hid (Calls Try.prog 21 #[.pointer (some ⟨lb, 0, none⟩)] w.drew fun e w' => e = .returned (.int .i64 first) ∧ w' = w.drew) := first_at w.drew lb _ _ _ hg.cell
  have H2 : Hid (Calls Try.prog 22 #[.pointer (some ⟨lb, 0, none⟩)] w.drew fun e w' => e = .returned (.int .i64 ((first : Int) + l.length)) ∧ Below w.heap.size w w') := by
    refine (next_at w.drew lb _ _ _ _ _ (by omega) (by omega) hg.cell).mono ?_
    rintro e w' ⟨rfl, b⟩
    exact ⟨rfl, (Below.refl _ w).drew.trans b⟩
  have hrb := (h.out.r.lt (.inl rfl)).2
  clear hg
  have c2 : ((first + l.length : Nat) : Int) = (first : Int) + l.length := by omega
  rw [c2] at e2
  go_enter Try.func19, Try.ntmps19
  go_wp2_with fail
  go_region_with (first | (go_at_call 21; refine H1.out.mono ?_; rintro e w1 ⟨rfl, rfl⟩) | (go_at_call 22; refine H2.out.mono ?_; rintro e w2 ⟨rfl, b2⟩; have y1 := (b2.cell (p := ⟨rb, 1, none⟩) hrb).trans e1; have y2 := (b2.cell (p := ⟨rb, 2, none⟩) hrb).trans e2; have B2 : Hid (Below w.heap.size w w2) := b2; clear b2))
  all_goals
    clear H1 H2
    go_wp2_with fail
    clear y1 y2
    go_loopw [5] (fun i V => ∃ j : Nat, j ≤ l.length ∧ i = .int .i64 ((first : Int) + j) ∧ Below w.heap.size w V) (fun i _ => l.length - ((intOf i).toNat - first))
    case atStart => exact ⟨0, Nat.zero_le _, by simp, B2.out⟩
    case round =>
      obtain ⟨j, hj, rfl, hb⟩ := hrel
      have y1 := (hb.cell (p := ⟨rb, 1, none⟩) hrb).trans e1
      have y2 := (hb.cell (p := ⟨rb, 2, none⟩) hrb).trans e2
      have BW : Hid (Bo w0 wr pb lb rb D pt first l tg lt R v) := h.out.keep hb
      have HB : Hid (Below w.heap.size w wr) := hb
      clear hb
      by_cases hlt : j < l.length
      · have hi : (first : Int) + j < (first : Int) + l.length := by omega
        obtain ⟨r, hr⟩ : ∃ r, l[j]? = some r := ⟨l[j], List.getElem?_eq_getElem _⟩
        obtain ⟨r', hr', hbb⟩ := hS.out.e j r hr
        have hw : IntKind.i64.wrap ((first : Int) + j + 1) = (first : Int) + j + 1 := by rw [IntKind.wrap_i64]; omega
        have G1 : Hid (Calls Try.prog 23 #[.pointer (some ⟨lb, 0, none⟩), .int .i64 ((first : Int) + j)] wr fun e w' => ∃ q c, e = .returned (.tuple #[.slice q r.b.length c, .int .i64 0]) ∧ Lies w' q r.b ∧ Below wr.heap.size wr w') := by
          refine (get_ok (P := NoP) BW.out.j j r hr hlt (by omega)).mono ?_
          rintro e w' ⟨q, c, rfl, o, b⟩
          exact ⟨q, c, rfl, (own_parts o).1, b⟩
        have HR : Hid (R.all[first + j]? = some r' ∧ r'.b = r.b) := ⟨hr', hbb⟩
        clear hr hr' hbb
        go_wp2_with (go_at_call 23; refine G1.out.mono ?_)
        first | rintro e x1 q1 c1 rfl L1 b1 | rintro e x1 ⟨q1, c1, rfl, L1, b1⟩
        have HL1 : Hid (Lies x1 q1 r.b ∧ Below wr.heap.size wr x1) := ⟨L1, b1⟩
        have G2 : Hid (Calls Try.prog 40 #[.pointer (some ⟨rb, 0, none⟩), .int .i64 ((first : Int) + j)] x1 fun e w' => e = .returned (.tuple #[.slice r'.a r'.b.length r'.c, .int .i64 0]) ∧ w' = x1) := by
          have := rget_ok (w := x1) (B := w0.heap.size) (rb := rb) (R := R) ⟨v, (BW.out.keep b1).r⟩ (first + j) r' (by rw [hS.out.f]; omega) (by rw [hS.out.n]; omega) HR.out.1
          rw [show ((first + j : Nat) : Int) = (first : Int) + j by omega] at this
          exact this
        have G3 : Hid (Calls Try.prog 41 #[.slice q1 r.b.length c1, .slice r'.a r'.b.length r'.c] x1 fun e w' => e = .returned (.bool true) ∧ Below x1.heap.size x1 w') := by
          have hown := (BW.out.keep b1).r.ps.each r' (List.mem_of_getElem? HR.out.1)
          have h80 := (BW.out.keep b1).r.h80 r' (List.mem_of_getElem? HR.out.1)
          have := rsame_any r.b r'.b q1 r'.a c1 r'.c x1 (by rw [← HR.out.2]; omega) L1 (own_parts (q := r'.a) (k := r'.b.length) (c := r'.c) hown).1
          rw [decide_eq_true HR.out.2.symm] at this
          exact this
        clear L1 b1 G1
        go_wp2_with (go_at_call 40; refine G2.out.mono ?_)
        first | rintro e x2 rfl rfl | rintro e x2 ⟨rfl, rfl⟩
        go_wp2_with (go_at_call 41; refine G3.out.mono ?_)
        first | rintro e x3 rfl b3 | rintro e x3 ⟨rfl, b3⟩
        have HB3 : Hid (Below w.heap.size w x3) := below_from (below_from HB.out HL1.out.2 HB.out.size) b3 (Nat.le_trans HB.out.size HL1.out.2.size)
        clear b3 G2 G3
        go_wp2_with fail
        exact ⟨⟨j + 1, by omega, congrArg (Value.int .i64) (by omega), HB3.out⟩, by simp [intOf]; omega⟩
      · obtain rfl : j = l.length := by omega
        clear hlt hj
        have hw : IntKind.i64.wrap ((first : Int) - 1) = (first : Int) - 1 := by rw [IntKind.wrap_i64]; omega
        have G1 : Hid (Calls Try.prog 23 #[.pointer (some ⟨lb, 0, none⟩), .int .i64 ((first : Int) - 1)] wr fun e w' => e = .returned (.tuple #[.slice none 0 0, .int .i64 2]) ∧ Below wr.heap.size wr w') := get_no (P := NoP) BW.out.j _ (.inl (by omega))
        go_wp2_with (go_at_call 23; refine G1.out.mono ?_)
        first | rintro e x1 rfl b1 | rintro e x1 ⟨rfl, b1⟩
        have G2 : Hid (Calls Try.prog 23 #[.pointer (some ⟨lb, 0, none⟩), .int .i64 ((first : Int) + l.length)] x1 fun e w' => e = .returned (.tuple #[.slice none 0 0, .int .i64 2]) ∧ Below x1.heap.size x1 w') := get_no (P := NoP) (BW.out.keep b1).j _ (.inr (Int.le_refl _))
        have z2 := (b1.cell (p := ⟨rb, 2, none⟩) (block_lt_of_cell y2)).trans y2
        have HB1 : Hid (Below w.heap.size w x1) := below_from HB.out b1 HB.out.size
        clear b1 G1
        go_wp2_with (go_at_call 23; refine G2.out.mono ?_)
        first | rintro e x2 rfl b2 | rintro e x2 ⟨rfl, b2⟩
        have HB2 : Hid (Below w.heap.size w x2) := below_from HB1.out b2 HB1.out.size
        clear b2 G2
        go_wp2_with fail
        go_ret
        exact ⟨rfl, HB2.out⟩
end Go.Proofs.Ytplcpjngpkghmaa
