/-
  ProfileEarliest's law.
-/
import Derived.Test.YtkfpbpkadkhhnaaLd
namespace Go.Proofs.Ytkfpbpkadkhhnaa
open Go.RowKit Go.Maps Go.Sort

theorem earA_zero {C : V} {f : Int → V} {a n : Int} {v : V} {t : Int} (h : EarA C f a n v t 0) : v.ok = true ∧ (0 ≤ a ∧ a ≤ 1099511627776 ∧ 1 ≤ n ∧ n ≤ 1099511627776) ∧ Ear f a n v t ∧ t + n ≤ 1099511627776 := by
  unfold EarA at h
  split at h
  · omega
  · rename_i h1
    split at h
    · omega
    · rename_i h2
      split at h
      · omega
      · obtain ⟨u, e1, e2⟩ := h
        split at e2
        · omega
        · rename_i h3
          obtain ⟨rfl, _⟩ := e2
          have h2' : rgE a n = true := by simpa using h2
          exact ⟨by simpa using h1, of_decide_eq_true h2', e1, by omega⟩
theorem at_drew {w : World} {g : Nat} {o : Obj} (h : w.heap[g]? = some o) : w.drew.heap[g]? = some o := h
set_option maxHeartbeats 4000000 in
set_option maxRecDepth 100000 in
theorem ear_law (C v : V) (fr sp : Int) (q : Option Addr) (n c : Nat) (L : List Opr) (w : World) (hq : Scr w q L) (hn : L.length = n) (hn9 : n ≤ 9223372036854775807) (hf1 : -9223372036854775808 ≤ fr) (hf2 : fr ≤ 9223372036854775807) :
    Calls Try.prog 5 #[.agg #[.int .i64 C.a, .int .i64 C.b, .int .i64 C.c, .int .i64 C.d, .int .i64 v.a, .int .i64 v.b, .int .i64 v.c, .int .i64 v.d], .slice q n c, .agg #[.int .i64 fr, .int .i64 sp]] w fun e w' => e = .returned (.bool true) ∧ Below w.heap.size w w' := by
  go_enter Try.func5, Try.ntmps5
  go_wp2_with fail
  go_cut [7, 8, 9, 10] from 18 to 25 (fun s7 s8 s9 s10 wx => ∃ g7 g8 : Nat, s7 = .pointer (some ⟨g7, 0, none⟩) ∧ s8 = .pointer (some ⟨g8, 0, none⟩) ∧ s9 = .int .i64 fr ∧ s10 = .int .i64 sp ∧ Hid (Bx wx g7 C ∧ Bx wx g8 v ∧ g7 ≠ g8 ∧ w.heap.size ≤ g7 ∧ w.heap.size ≤ g8 ∧ Below w.heap.size w wx))
  case first =>
    go_region
    all_goals (go_wp2_with fail; go_meet)
    all_goals refine ⟨_, _, rfl, rfl, rfl, rfl, ?_, ?_, ?_, ?_, ?_, ?_⟩
    all_goals first
      | (show Bx _ _ _; first | exact at_drew new3 | exact at_drew (at_alloc new2))
      | omega
      | exact Below.drew (by go_grown)
  case rest =>
    obtain ⟨g7, g8, rfl, rfl, rfl, rfl, HX0⟩ := hcut
    have HA : Hid (∀ W1, Below wc.heap.size wc W1 → Calls Try.prog 8 #[] W1 fun e w' => e = .returned (.bool true) ∧ Hid (Below wc.heap.size wc w')) := fun W1 b => awake_any wc W1 b
    have HA0 : Hid (Calls Try.prog 8 #[] wc fun e w' => e = .returned (.bool true) ∧ Hid (Below wc.heap.size wc w')) := HA.out wc (Below.refl _ _)
    by_cases h2 : 300 < n
    · have h2' : decide ((300 : Int) < (n : Int)) = true := decide_eq_true (by omega)
      clear h2 hn hn9
      go_upto_region 3 with (go_at_call 8; refine HA0.out.mono ?_; rintro e w1 ⟨rfl, b1⟩)
      go_wp2_with (go_at_call 8; refine (HA.out _ b1.out).mono ?_; rintro e w2 ⟨rfl, b2⟩)
      go_ret
      exact ⟨rfl, HX0.out.2.2.2.2.2.trans (b2.out.mono HX0.out.2.2.2.2.2.size)⟩
    have h2' : decide ((300 : Int) < (n : Int)) = false := decide_eq_false (by omega)
    have h2'' : (n : Int) ≤ 300 := by omega
    have HNN : Hid (L.length = n ∧ Scr w q L) := ⟨hn, hq⟩
    clear h2 hn hn9 hq
    go_upto_region 4 with (go_at_call 8; refine HA0.out.mono ?_; rintro e w1 ⟨rfl, b1⟩)
    have hx7 : Bx w1 g7 C := at_below b1.out (Nat.le_refl _) HX0.out.1
    have hx8 : Bx w1 g8 v := at_below b1.out (Nat.le_refl _) HX0.out.2.1
    have y1 : Hid (Below w.heap.size w w1) := HX0.out.2.2.2.2.2.trans (b1.out.mono HX0.out.2.2.2.2.2.size)
    clear HA HA0 b1 HX0
    obtain ⟨q0, q1, q2, q3, -⟩ := cells4 hx7
    by_cases hC : C.ok = true
    case neg =>
      have HN : Hid (Calls Try.prog 9 #[.agg #[.int .i64 C.a, .int .i64 C.b, .int .i64 C.c, .int .i64 C.d]] w1 fun e w' => e = .returned (.tuple #[.pointer none, .int .i64 4]) ∧ Hid (Below w.heap.size w w')) := (new_bad w1 C (by simpa using hC)).mono fun e w' h => ⟨h.1, y1.out.trans (h.2.mono y1.out.size)⟩
      go_wp2_with (go_at_call 9; refine HN.out.mono ?_; rintro e w2 ⟨rfl, b2⟩)
      go_ret
      exact ⟨rfl, b2.out⟩
    have HN : Hid (Calls Try.prog 9 #[.agg #[.int .i64 C.a, .int .i64 C.b, .int .i64 C.c, .int .i64 C.d]] w1 fun e w' => ∃ pb, e = .returned (.tuple #[.pointer (some ⟨pb, 0, none⟩), .int .i64 0]) ∧ Hid (LL w w' pb (adX NX g8 (vB v)) C (fun _ => C) 0)) := l_new w w1 y1.out C hC (adX NX g8 (vB v)) (oneX hx8)
    clear y1 hx8 hx7
    go_upto_region 7 with (go_at_call 9; refine HN.out.mono ?_; rintro e w2 ⟨pb, rfl, h2⟩)
    clear HN q0 q1 q2 q3
    go_wp2_with fail
    go_loopw [13] (fun t wr => ∃ k : Nat, t = .int .i64 k ∧ Hid (k ≤ n ∧ ∃ f m, m ≤ k ∧ LL w wr pb (adX NX g8 (vB v)) C f m)) (fun t _ => n - (intOf t).toNat)
    case atStart => exact ⟨0, rfl, Nat.zero_le _, _, _, Nat.le_refl _, h2.out⟩
    case round =>
      clear h2
      obtain ⟨k, rfl, HK⟩ := hrel
      obtain ⟨f, m, hmk, hL0⟩ := HK.out.2
      have hL : Hid (LL w wr pb (adX NX g8 (vB v)) C f m) := hL0
      have hmk' : Hid (m ≤ k) := hmk
      clear hL0 hmk
      by_cases hk : k < n
      · have hk' : (k : Int) < (n : Int) := by omega
        obtain ⟨o, ho⟩ : ∃ o, L[k]? = some o := ⟨L[k]'(by have := HNN.out.1; omega), List.getElem?_eq_getElem _⟩
        obtain ⟨g, f0, eq1, hc⟩ := HNN.out.2 k o ho
        obtain ⟨c0, c1, c2, c3, c4, c5, c6⟩ := hc.below hL.out.bel
        have H15 : Hid (Calls Try.prog 15 #[.pointer (some ⟨pb, 0, none⟩), .int .i64 o.a, .int .i64 o.b, .agg #[.int .i64 o.v.a, .int .i64 o.v.b, .int .i64 o.v.c, .int .i64 o.v.d]] wr.drew fun e w' => ∃ x, e = .returned (.int .i64 x) ∧ Hid (∃ f m, m ≤ k + 1 ∧ LL w w' pb (adX NX g8 (vB v)) C f m)) := (l_take (hL.out.below (w' := wr.drew) ((Below.refl _ _).drew)) o.a o.b o.v).mono fun e w' h => ⟨_, h.1, _, _, by have := hmk'.out; unfold stN; split <;> omega, h.2⟩
        have Hk : Hid (k < n) := hk
        subst eq1
        clear hk HK hL ho hc c0 hmk'
        obtain ⟨kd, a, b, va⟩ := o
        simp only at c1 c2 c3 c4 c5 c6 H15
        go_upto_region 10 with fail
        go_region_with (first | (go_at_call 15; refine H15.out.mono ?_; rintro e w3 ⟨x, rfl, h3⟩))
        all_goals go_wp2_with fail
        all_goals
          have := Hk.out
          refine ⟨⟨k + 1, by simp, by show k + 1 ≤ n; omega, h3.out⟩, ?_⟩
          simp [intOf]
          omega
      · have hk' : decide ((k : Int) < (n : Int)) = false := decide_eq_false (by omega)
        have hm4 : Hid (m ≤ 300) := by have := hmk'.out; have := HK.out.1; show m ≤ 300; omega
        clear HK hmk'
        have hx8 : Bx wr g8 v := hL.out.box (adX_self _ _ _)
        obtain ⟨q0, q1, q2, q3, -⟩ := cells4 hx8
        have H18 : Hid (Calls Try.prog 18 #[.pointer (some ⟨pb, 0, none⟩), .int .i64 fr, .int .i64 sp, .agg #[.int .i64 v.a, .int .i64 v.b, .int .i64 v.c, .int .i64 v.d]] wr fun e w' => ∃ t x : Int, e = .returned (.tuple #[.int .i64 t, .int .i64 x]) ∧ Hid (EarA C f fr sp v t x) ∧ Hid (LL w w' pb (adX NX g8 (vB v)) C f m)) := (l_ear hL.out fr sp v).mono fun e w' h => by
          obtain ⟨⟨t, x, h1, h2⟩, h3⟩ := h
          exact ⟨t, x, h1, h2, hL.out.below h3⟩
        go_upto_region 12 with (go_at_call 18; refine H18.out.mono ?_; rintro e w3 ⟨t, x, rfl, hE, hL3⟩)
        clear H18 q0 q1 q2 q3 hx8 hL
        by_cases hx0 : x = 0
        · subst hx0
          obtain ⟨hv, ⟨a0, a1, n0, n1⟩, hEr, htn⟩ := earA_zero hE.out
          have hge := hEr.ge
          have HV : Hid (v.ok = true) := hv
          have HE : Hid (Ear f fr sp v t) := hEr
          have e1 : decide (t < fr) = false := decide_eq_false (by omega)
          have e1' : ¬ t < fr := by omega
          have e2 : decide (1099511627776 - sp < t) = false := decide_eq_false (by omega)
          have e2' : ¬ 1099511627776 - sp < t := by omega
          have w1' : IntKind.i64.wrap (1099511627776 - sp) = 1099511627776 - sp := by rw [IntKind.wrap_i64]; omega
          have w2' : IntKind.i64.wrap (t - 1) = t - 1 := by rw [IntKind.wrap_i64]; omega
          have w3' : IntKind.i64.wrap (t - 1 + sp) = t - 1 + sp := by rw [IntKind.wrap_i64]; omega
          have w4' : IntKind.i64.wrap (t + sp) = t + sp := by rw [IntKind.wrap_i64]; omega
          have HT : Hid (∀ W, LL w W pb (adX NX g8 (vB v)) C f m → Calls Try.prog 15 #[.pointer (some ⟨pb, 0, none⟩), .int .i64 t, .int .i64 (t + sp), .agg #[.int .i64 v.a, .int .i64 v.b, .int .i64 v.c, .int .i64 v.d]] W fun e w' => e = .returned (.int .i64 0) ∧ Hid (Below w.heap.size w w')) := fun W hW => by
            have hc : tkC f m t (t + sp) v = 0 := by
              unfold tkC
              rw [if_neg (by rw [hv]; decide), if_neg (by rw [spn_iff.2 ⟨by omega, by omega, by omega⟩]; decide), if_neg (by have := hm4.out; omega), if_neg]
              exact fun q => q hEr.ok
            refine (l_take hW t (t + sp) v).mono ?_
            rintro e w' ⟨rfl, h'⟩
            exact ⟨by rw [hc], h'.bel⟩
          by_cases htf : fr < t
          · have HL : Hid (Calls Try.prog 19 #[.pointer (some ⟨pb, 0, none⟩), .int .i64 (t - 1), .int .i64 (t - 1 + sp)] w3 fun e w' => ∃ l : V, e = .returned (.tuple #[.agg #[.int .i64 l.a, .int .i64 l.b, .int .i64 l.c, .int .i64 l.d], .int .i64 0]) ∧ Hid (LL w w' pb (adX NX g8 (vB v)) C f m ∧ ¬ v.le l)) := by
              refine (l_least hL3.out (t - 1) (t - 1 + sp) (spn_iff.2 ⟨by omega, by omega, by omega⟩)).mono ?_
              rintro e w' ⟨⟨l, rfl, hl⟩, b⟩
              refine ⟨l, rfl, hL3.out.below b, fun q => hEr.no (t - 1) (by omega) (by omega) ?_⟩
              exact hl.le_iff.1 q
            clear hEr hv hE
            go_upto_region 18 with (go_at_call 19; refine HL.out.mono ?_; rintro e w4 ⟨l, rfl, h4⟩)
            have hL5 : Hid (LL w (w4.alloc (vB l)) pb (adX NX g8 (vB v)) C f m) := h4.out.1.below ((Below.refl _ _).alloc (Nat.le_refl _) _)
            have hx8 : Bx w4 g8 v := h4.out.1.box (adX_self _ _ _)
            obtain ⟨q0, q1, q2, q3, -, -, -, -, qs, qn⟩ := cells4 hx8
            have H16 : Hid (Calls Try.prog 16 #[.agg #[.int .i64 v.a, .int .i64 v.b, .int .i64 v.c, .int .i64 v.d], .agg #[.int .i64 l.a, .int .i64 l.b, .int .i64 l.c, .int .i64 l.d]] (w4.alloc (.cells #[.int .i64 l.a, .int .i64 l.b, .int .i64 l.c, .int .i64 l.d] 23)) fun e w' => e = .returned (.bool false) ∧ Hid (LL w w' pb (adX NX g8 (vB v)) C f m)) := by
              refine (rfits_V v l _).mono ?_
              rintro e w' ⟨rfl, b⟩
              exact ⟨by rw [decide_eq_false h4.out.2], hL5.out.below b⟩
            clear HL
            go_upto_region 20 with (go_at_call 16; refine H16.out.mono ?_; rintro e w5 ⟨rfl, h5⟩)
            clear H16 q0 q1 q2 q3 qs qn
            have hx9 : Bx w5 g8 v := h5.out.box (adX_self _ _ _)
            obtain ⟨q0, q1, q2, q3, -⟩ := cells4 hx9
            go_wp2_with (go_at_call 15; refine (HT.out _ h5.out).mono ?_; rintro e w6 ⟨rfl, h6⟩)
            go_ret
            exact ⟨rfl, h6.out⟩
          · have e3 : decide (fr < t) = false := decide_eq_false htf
            have hx8 : Bx w3 g8 v := hL3.out.box (adX_self _ _ _)
            obtain ⟨q0, q1, q2, q3, -⟩ := cells4 hx8
            clear hEr hv hE
            go_wp2_with (go_at_call 15; refine (HT.out _ hL3.out).mono ?_; rintro e w6 ⟨rfl, h6⟩)
            go_ret
            exact ⟨rfl, h6.out⟩
        · have hx3 : Hid (t = 0 ∧ (x = 4 ∨ x = 2 ∨ x = 7)) := by
            have := hE.out
            unfold EarA at this
            split at this
            · exact ⟨this.1, .inl this.2⟩
            · split at this
              · exact ⟨this.1, .inr (.inl this.2)⟩
              · split at this
                · exact ⟨this.1, .inr (.inr this.2)⟩
                · obtain ⟨u, _, h⟩ := this
                  split at h
                  · exact ⟨h.1, .inr (.inl h.2)⟩
                  · exact absurd h.2 hx0
          obtain ⟨ht0, hx4⟩ := hx3.out
          subst ht0
          clear hx3 hE
          rcases hx4 with rfl | rfl | rfl
          all_goals clear hx0
          all_goals go_wp2_with fail
          all_goals go_ret
          all_goals exact ⟨ret_b (by simp), hL3.out.bel⟩
end Go.Proofs.Ytkfpbpkadkhhnaa
