/-
  JournalNil's law.
-/
import Derived.Test.YtplcpjngpkghmaaJl
namespace Go.Proofs.Ytplcpjngpkghmaa
open Go.RowKit Go.Maps

set_option maxHeartbeats 8000000 in
set_option maxRecDepth 100000 in
theorem jnil_law (n : Int) (b : List UInt8) (q : Option Addr) (c m : Nat) (w : World) (hb : Hid (b.length = m)) (hL : Hid (Lies w q b)) (hz : Hid (q = none → c = 0)) (hm : m < 1152921504606846976) :
    Calls Try.prog 7 #[.int .i64 n, .slice q m c] w fun e w' => e = .returned (.bool true) ∧ Below w.heap.size w w' := by
  have H9 : Hid (∀ w, Calls Try.prog 9 #[] w fun e w' => e = .returned (.bool true) ∧ Below w.heap.size w w') := fun w => awake_any w
  have H27 : Hid (∀ w, Calls Try.prog 27 #[.pointer none] w fun e w' => e = .returned (.tuple #[.pointer none, .int .i64 11]) ∧ w = w') := fun w => (open_nil w).mono fun _ _ h => ⟨h.1, h.2.symm⟩
  have H20 : Hid (∀ w u, Calls Try.prog 20 #[.pointer none, u] w fun e w' => e = .returned (.tuple #[.int .i64 0, .int .i64 11]) ∧ w = w') := fun w u => (lap_over w _ u (over_nil w)).mono fun _ _ h => ⟨h.1, h.2.symm⟩
  have H23 : Hid (∀ w n, Calls Try.prog 23 #[.pointer none, .int .i64 n] w fun e w' => e = .returned (.tuple #[.slice none 0 0, .int .i64 2]) ∧ w = w') := fun w n => (get_nil w n).mono fun _ _ h => ⟨h.1, h.2.symm⟩
  have H26 : Hid (∀ w, Calls Try.prog 26 #[.pointer none] w fun e w' => e = .returned (.int .i64 11) ∧ w = w') := fun w => (lsy_over w _ (over_nil w)).mono fun _ _ h => ⟨h.1, h.2.symm⟩
  have H25n : Hid (∀ w n, Calls Try.prog 25 #[.pointer none, .int .i64 n] w fun e w' => e = .returned (.int .i64 11) ∧ w = w') := fun w n => (ltr_over w _ n (over_nil w)).mono fun _ _ h => ⟨h.1, h.2.symm⟩
  have H21n : Hid (∀ w, Calls Try.prog 21 #[.pointer none] w fun e w' => e = .returned (.int .i64 0) ∧ w = w') := fun w => (first_nil w).mono fun _ _ h => ⟨h.1, h.2.symm⟩
  have H22n : Hid (∀ w, Calls Try.prog 22 #[.pointer none] w fun e w' => e = .returned (.int .i64 0) ∧ w = w') := fun w => (next_nil w).mono fun _ _ h => ⟨h.1, h.2.symm⟩
  go_enter Try.func7, Try.ntmps7
  go_wp2_with (go_at_call 9; refine (H9.out _).mono ?_)
  rintro e w1 ⟨rfl, b1⟩
  have y1 : Hid (Below w.heap.size w w1) := b1
  clear b1
  by_cases hbig : (10000 : Int) < (m : Int)
  · go_wp2_with (go_at_call 9; refine (H9.out _).mono ?_)
    rintro e w2 ⟨rfl, b2⟩
    go_wp2_with fail
    go_ret
    exact ⟨rfl, below_from y1.out b2 y1.out.size⟩
  go_upto_region 9 with (first
    | (go_at_call 27; refine (H27.out _).mono ?_; rintro e w' ⟨rfl, rfl⟩)
    | (go_at_call 20; refine (H20.out _ _).mono ?_; rintro e w' ⟨rfl, rfl⟩)
    | (go_at_call 23; refine (H23.out _ _).mono ?_; rintro e w' ⟨rfl, rfl⟩)
    | (go_at_call 26; refine (H26.out _).mono ?_; rintro e w' ⟨rfl, rfl⟩)
    | (go_at_call 25; refine (H25n.out _ _).mono ?_; rintro e w' ⟨rfl, rfl⟩)
    | (go_at_call 21; refine (H21n.out _).mono ?_; rintro e w' ⟨rfl, rfl⟩)
    | (go_at_call 22; refine (H22n.out _).mono ?_; rintro e w' ⟨rfl, rfl⟩))
  clear H9 H27 H20 H23 H26 H25n H21n H22n
  go_wp2_with (go_at_call 11; refine (new_law w w1 y1.out).mono ?_)
  rintro e w2 ⟨pb, rfl, tg2, d2, t2, b2⟩
  have H12 : Hid (Calls Try.prog 12 #[.pointer (some ⟨pb, 0, none⟩), .slice none 0 0] w2 fun e w' => e = .returned (.pointer (some ⟨w2.heap.size, 0, none⟩)) ∧ ∃ tg' lt, LJ w w' pb w2.heap.size (dl (encB 0 []) 16) (some ⟨pb, 0, none⟩) 0 [] tg' lt) := opened_fresh _ b2 d2 t2
  clear d2 t2 b2
  go_wp2_with (go_at_call 12; refine H12.out.mono ?_)
  first | rintro e w3 rfl tg3 lt3 h3 | rintro e w3 ⟨rfl, tg3, lt3, h3⟩
  generalize w2.heap.size = lb at *
  have H3 : Hid (LJ w w3 pb lb (dl (encB 0 []) 16) (some ⟨pb, 0, none⟩) 0 [] tg3 lt3) := h3
  clear h3 H12
  by_cases hfit : (m : Int) ≤ 4080
  · have hoff : Hid (LiesOff w3 tg3 q b ∧ LiesOff w3 lt3 q b) := by
      rcases hL.out with h0 | ⟨g, o, h1, h2⟩
      · exact ⟨.inl h0, .inl h0⟩
      · by_cases h0 : b = []
        · exact ⟨.inl h0, .inl h0⟩
        · have hlt : g < w.heap.size := block_lt_of_cell (h2 0 _ (List.getElem?_eq_getElem (List.length_pos_iff.2 h0)))
          have hr : Row w3 g o b := h2.keep H3.out.b (Nat.le_refl _)
          have hl3 := Nat.lt_of_lt_of_le hlt H3.out.b.size
          exact ⟨.inr ⟨g, o, h1, hr, hl3, no_of fun e => by have := H3.out.t1 g e; omega⟩, .inr ⟨g, o, h1, hr, hl3, no_of fun e => by have := H3.out.t2 g e; omega⟩⟩
    have H20 : Hid (Calls Try.prog 20 #[.pointer (some ⟨lb, 0, none⟩), .slice q m c] w3 fun e w' => e = .returned (.tuple #[.int .i64 0, .int .i64 0]) ∧ ∃ tg' lt' a c', LJ w w' pb lb (dl (encB 0 [] ++ Crc.frame b) 16) (some ⟨pb, 0, none⟩) 0 [⟨b, a, c'⟩] tg' lt') :=
      lap_ok H3.out b q m c (by omega) hb hz hoff.out.1 hoff.out.2 (by simp) (by simp) _ (app_dl _ _ _ (by have := hb.out; rw [enc0_len, Crc.frame_length]; omega))
    clear hoff
    go_wp2_with (go_at_call 20; refine H20.out.mono ?_)
    first | rintro e w4 rfl tg4 lt4 a4 c4 h4 | rintro e w4 ⟨rfl, tg4, lt4, a4, c4, h4⟩
    have H4 : Hid (LJ w w4 pb lb (dl (encB 0 [] ++ Crc.frame b) 16) (some ⟨pb, 0, none⟩) 0 [⟨b, a4, c4⟩] tg4 lt4) := h4
    clear h4 H20 H3
    have H25 : Hid (Calls Try.prog 25 #[.pointer (some ⟨lb, 0, none⟩), .int .i64 n] w4 fun e w' => ∃ i D' first' l' tg' lt', e = .returned (.int .i64 i) ∧ LJ w w' pb lb D' (some ⟨pb, 0, none⟩) first' l' tg' lt' ∧ first' + l'.length = ([⟨b, a4, c4⟩] : List RC).length ∧ ((0 ≤ n ∧ n ≤ (([⟨b, a4, c4⟩] : List RC).length : Int) ∧ i = 0) ∨ (n < 0 ∧ i = 2 ∧ first' = 0) ∨ (0 ≤ n ∧ (([⟨b, a4, c4⟩] : List RC).length : Int) < n ∧ i = 2 ∧ first' = 0))) := trim_any H4.out (by simp) n
    go_wp2_with (go_at_call 25; refine H25.out.mono ?_)
    first | rintro e w5 i5 D5 f5 l5 tg5 lt5 rfl h5 s5 c5 | rintro e w5 ⟨i5, D5, f5, l5, tg5, lt5, rfl, h5, s5, c5⟩
    have H5 : Hid (LJ w w5 pb lb D5 (some ⟨pb, 0, none⟩) f5 l5 tg5 lt5) := h5
    obtain ⟨v5, hg5⟩ := h5.g
    obtain ⟨q5, k5, hv5⟩ := lg_slice hg5
    subst hv5
    have s5n : f5 + l5.length = 1 := s5
    have s5' : (f5 : Int) + l5.length = 1 := by omega
    have H22 : Hid (Calls Try.prog 22 #[.pointer (some ⟨lb, 0, none⟩)] w5 fun e w' => e = .returned (.int .i64 1) ∧ Below w5.heap.size w5 w') := by
      have := next_at w5 lb _ f5 q5 l5.length k5 (by omega) (by omega) hg5.cell
      rw [s5'] at this
      exact this
    have B5 : Hid (Below w.heap.size w w5) := h5.b
    have C5 : Hid (w5.heap[lb]? = some (.cells #[.pointer (some ⟨pb, 0, none⟩), .int .i64 (f5 : Int), .slice q5 l5.length k5] 77 (0, 0))) := hg5.cell
    clear h5 hg5 H25 s5 s5' s5n
    rcases c5 with ⟨c1, c2, rfl⟩ | ⟨c1, rfl, rfl⟩ | ⟨c1, c2, rfl, rfl⟩
    · have c2' : n ≤ 1 := by simpa using c2
      clear c2
      go_wp2_with (go_at_call 22; refine H22.out.mono ?_)
      first | rintro e w6 rfl b6 | rintro e w6 ⟨rfl, b6⟩
      go_wp2_with fail
      all_goals go_ret
      all_goals exact ⟨rfl, below_from B5.out b6 B5.out.size⟩
    · have H21 : Hid (Calls Try.prog 21 #[.pointer (some ⟨lb, 0, none⟩)] w5 fun e w' => e = .returned (.int .i64 0) ∧ w' = w5) := first_at w5 lb _ _ _ C5.out
      go_wp2_with (go_at_call 21; refine H21.out.mono ?_; rintro e w6 ⟨rfl, rfl⟩)
      all_goals go_ret
      all_goals exact ⟨rfl, B5.out⟩
    · have c2' : 1 < n := by simpa using c2
      clear c2
      go_wp2_with (go_at_call 22; refine H22.out.mono ?_)
      first | rintro e w6 rfl b6 | rintro e w6 ⟨rfl, b6⟩
      have H21 : Hid (Calls Try.prog 21 #[.pointer (some ⟨lb, 0, none⟩)] w6 fun e w' => e = .returned (.int .i64 0) ∧ w' = w6) := first_at w6 lb _ _ _ (at_below b6 (Nat.le_refl _) C5.out)
      go_wp2_with (go_at_call 21; refine H21.out.mono ?_; rintro e w7 ⟨rfl, rfl⟩)
      all_goals go_ret
      all_goals
        refine ⟨?_, below_from B5.out b6 B5.out.size⟩
        show Ending.returned (.bool (!decide (n ≤ 1))) = _
        rw [decide_eq_false (by omega)]
        rfl
  · have hfit' : 4080 < (m : Int) := by omega
    clear hfit
    have H20 : Hid (Calls Try.prog 20 #[.pointer (some ⟨lb, 0, none⟩), .slice q m c] w3 fun e w' => e = .returned (.tuple #[.int .i64 0, .int .i64 1]) ∧ w' = w3) := by
      obtain ⟨v, hg⟩ := H3.out.g
      exact lap_long w3 _ q m c hfit' (over_no w3 lb _ _ _ hg.cell)
    go_wp2_with (go_at_call 20; refine H20.out.mono ?_)
    rintro e w4 ⟨rfl, rfl⟩
    clear H20
    have H25 : Hid (Calls Try.prog 25 #[.pointer (some ⟨lb, 0, none⟩), .int .i64 n] w4 fun e w' => ∃ i D' first' l' tg' lt', e = .returned (.int .i64 i) ∧ LJ w w' pb lb D' (some ⟨pb, 0, none⟩) first' l' tg' lt' ∧ first' + l'.length = ([] : List RC).length ∧ ((0 ≤ n ∧ n ≤ (([] : List RC).length : Int) ∧ i = 0) ∨ (n < 0 ∧ i = 2 ∧ first' = 0) ∨ (0 ≤ n ∧ (([] : List RC).length : Int) < n ∧ i = 2 ∧ first' = 0))) := trim_any H3.out (by simp) n
    go_wp2_with (go_at_call 25; refine H25.out.mono ?_)
    first | rintro e w5 i5 D5 f5 l5 tg5 lt5 rfl h5 s5 c5 | rintro e w5 ⟨i5, D5, f5, l5, tg5, lt5, rfl, h5, s5, c5⟩
    have H5 : Hid (LJ w w5 pb lb D5 (some ⟨pb, 0, none⟩) f5 l5 tg5 lt5) := h5
    obtain ⟨v5, hg5⟩ := h5.g
    obtain ⟨q5, k5, hv5⟩ := lg_slice hg5
    subst hv5
    have s5n : f5 + l5.length = 0 := s5
    have s5' : (f5 : Int) + l5.length = 0 := by omega
    have H22 : Hid (Calls Try.prog 22 #[.pointer (some ⟨lb, 0, none⟩)] w5 fun e w' => e = .returned (.int .i64 0) ∧ Below w5.heap.size w5 w') := by
      have := next_at w5 lb _ f5 q5 l5.length k5 (by omega) (by omega) hg5.cell
      rw [s5'] at this
      exact this
    have B5 : Hid (Below w.heap.size w w5) := h5.b
    have C5 : Hid (w5.heap[lb]? = some (.cells #[.pointer (some ⟨pb, 0, none⟩), .int .i64 (f5 : Int), .slice q5 l5.length k5] 77 (0, 0))) := hg5.cell
    clear h5 hg5 H25 s5 s5' s5n
    rcases c5 with ⟨c1, c2, rfl⟩ | ⟨c1, rfl, rfl⟩ | ⟨c1, c2, rfl, rfl⟩
    · have c2' : n ≤ 0 := by simpa using c2
      clear c2
      go_wp2_with (go_at_call 22; refine H22.out.mono ?_)
      first | rintro e w6 rfl b6 | rintro e w6 ⟨rfl, b6⟩
      go_wp2_with fail
      all_goals go_ret
      all_goals exact ⟨rfl, below_from B5.out b6 B5.out.size⟩
    · have H21 : Hid (Calls Try.prog 21 #[.pointer (some ⟨lb, 0, none⟩)] w5 fun e w' => e = .returned (.int .i64 0) ∧ w' = w5) := first_at w5 lb _ _ _ C5.out
      go_wp2_with (go_at_call 21; refine H21.out.mono ?_; rintro e w6 ⟨rfl, rfl⟩)
      all_goals go_ret
      all_goals exact ⟨rfl, B5.out⟩
    · have c2' : 0 < n := by simpa using c2
      clear c2
      go_wp2_with (go_at_call 22; refine H22.out.mono ?_)
      first | rintro e w6 rfl b6 | rintro e w6 ⟨rfl, b6⟩
      have H21 : Hid (Calls Try.prog 21 #[.pointer (some ⟨lb, 0, none⟩)] w6 fun e w' => e = .returned (.int .i64 0) ∧ w' = w6) := first_at w6 lb _ _ _ (at_below b6 (Nat.le_refl _) C5.out)
      go_wp2_with (go_at_call 21; refine H21.out.mono ?_; rintro e w7 ⟨rfl, rfl⟩)
      all_goals go_ret
      all_goals
        refine ⟨?_, below_from B5.out b6 B5.out.size⟩
        show Ending.returned (.bool (!decide (n ≤ 0))) = _
        rw [decide_eq_false (by omega)]
        rfl
end Go.Proofs.Ytplcpjngpkghmaa
