/-
  Sums of vectors, by the document.
-/
import Derived.Test.YtclhnclhocekkaaVa
import Derived.Deep.RegionHeld3
import Derived.Deep.CutRange
import Derived.Deep.DeepCutAuto
namespace Go.Proofs.Ytclhnclhocekkaa
open Go.RowKit

theorem keep4c' {W w1 : World} {a a2 a3 a4 : Addr} {v v2 v3 v4 : Value} (hb : Below W.heap.size W w1) (h : W.cell? a = some v ∧ W.cell? a2 = some v2 ∧ W.cell? a3 = some v3 ∧ W.cell? a4 = some v4) : w1.cell? a = some v ∧ w1.cell? a2 = some v2 ∧ w1.cell? a3 = some v3 ∧ w1.cell? a4 = some v4 :=
  ⟨(hb.cell (block_lt_of_cell h.1)).trans h.1, (hb.cell (block_lt_of_cell h.2.1)).trans h.2.1, (hb.cell (block_lt_of_cell h.2.2.1)).trans h.2.2.1, (hb.cell (block_lt_of_cell h.2.2.2)).trans h.2.2.2⟩
theorem cell_other {W : World} {b g k i : Nat} {v : Value} (hne : b ≠ g) : (W.setCell ⟨g, k, none⟩ v).cell? ⟨b, i, none⟩ = W.cell? ⟨b, i, none⟩ := World.cell?_of_block (Below.heap_setCell _ _ _ _ hne)
theorem keep4t {W : World} {b g k i0 i1 i2 i3 : Nat} {v v0 v1 v2 v3 : Value} (hne : b ≠ g) (h : W.cell? ⟨b, i0, none⟩ = some v0 ∧ W.cell? ⟨b, i1, none⟩ = some v1 ∧ W.cell? ⟨b, i2, none⟩ = some v2 ∧ W.cell? ⟨b, i3, none⟩ = some v3) :
    (W.setCell ⟨g, k, none⟩ v).cell? ⟨b, i0, none⟩ = some v0 ∧ (W.setCell ⟨g, k, none⟩ v).cell? ⟨b, i1, none⟩ = some v1 ∧ (W.setCell ⟨g, k, none⟩ v).cell? ⟨b, i2, none⟩ = some v2 ∧ (W.setCell ⟨g, k, none⟩ v).cell? ⟨b, i3, none⟩ = some v3 :=
  ⟨(cell_other hne).trans h.1, (cell_other hne).trans h.2.1, (cell_other hne).trans h.2.2.1, (cell_other hne).trans h.2.2.2⟩
set_option maxHeartbeats 2000000 in
theorem rsum_bad (l : List V) (p o c : Nat) (w : World) (hn : l.length < 1152921504606846976) (hr : VRow w p o l) (hok : ¬ allOk l = true) :
    Calls Try.prog 19 #[.slice (some ⟨p, o, none⟩) l.length c] w fun e w' => e = ansV (V.nil, 4) ∧ Below w.heap.size w w' := by
  have HO : Hid (¬ allOk l = true) := hok
  generalize hL : l.length = n at *
  have HL : Hid (l.length = n) := hL
  have HR : Hid (VRow w p o l) := hr
  have HC : Hid (∀ (a b c d : Int) (w : World), Calls Try.prog 35 #[.agg #[.int .i64 a, .int .i64 b, .int .i64 c, .int .i64 d]] w fun e w' => e = .returned (.bool (fm a b c d)) ∧ Below w.heap.size w w') := fun a b c d w => rformed_any a b c d w
  clear hL hr hok
  go_enter Try.func19, Try.ntmps19
  go_wp2_with fail
  go_loopw [4] (fun x wr => ∃ k : Nat, x = .int .i64 k ∧ k ≤ n ∧ (∀ (i : Nat) (v : V), i < k → l[i]? = some v → v.ok = true) ∧ wr.heap[w.heap.size]? = some (.cells #[.int .i64 0, .int .i64 0, .int .i64 0, .int .i64 0] 41) ∧ Below w.heap.size w wr) (fun x _ => (n : Int).toNat - (intOf x).toNat)
  case atStart => exact ⟨0, rfl, by omega, fun _ _ h => absurd h (by omega), new0, (Below.refl _ _).alloc (Nat.le_refl _) _⟩
  case round =>
    obtain ⟨k, rfl, hk, hall, hres, hb⟩ := hrel
    by_cases h0 : k = n
    · exfalso
      refine HO.out (List.all_eq_true.2 fun v hv => ?_)
      obtain ⟨i, hi⟩ := List.mem_iff_getElem?.1 hv
      have hi' := (List.getElem?_eq_some_iff.1 hi).1
      exact hall i v (by have := HL.out; omega) hi
    · have hlt : k < l.length := by have := HL.out; omega
      have hlt' : (k : Int) < (n : Int) := by omega
      have hd : decide ((k : Int) < (n : Int)) = true := decide_eq_true hlt'
      obtain ⟨v, hv⟩ : ∃ v, l[k]? = some v := ⟨l[k], List.getElem?_eq_getElem hlt⟩
      obtain ⟨a, b, c', d⟩ := v
      obtain ⟨c0, c1, c2, c3⟩ := (HR.out.keep hb (Nat.le_refl _)) k _ hv
      simp only [] at c0 c1 c2 c3
      have HB : Hid (Below w.heap.size w wr) := hb
      have HA : Hid (∀ (i : Nat) (v : V), i < k → l[i]? = some v → v.ok = true) := hall
      clear hb hall
      by_cases hf : fm a b c' d = true
      · have HC' : Hid (∀ (w : World), Calls Try.prog 35 #[.agg #[.int .i64 a, .int .i64 b, .int .i64 c', .int .i64 d]] w fun e w' => e = .returned (.bool true) ∧ Below w.heap.size w w') := fun w => by have := HC.out a b c' d w; rwa [hf] at this
        clear HC
        go_wp2_with (go_at_call 35; refine (HC'.out _).mono ?_; rintro e w1 ⟨rfl, b1⟩)
        refine ⟨⟨k + 1, ?_, by omega, ?_, ?_, ?_⟩, ?_⟩
        · simp
        · intro i v hi hiv
          by_cases hik : i = k
          · subst hik
            rw [hv] at hiv
            obtain rfl := Option.some.inj hiv
            exact hf
          · exact HA.out i v (by omega) hiv
        · exact at_below b1 (Nat.le_refl _) hres
        · exact below_from HB.out b1 HB.out.size
        · simp only [intOf]; omega
      · have HC' : Hid (∀ (w : World), Calls Try.prog 35 #[.agg #[.int .i64 a, .int .i64 b, .int .i64 c', .int .i64 d]] w fun e w' => e = .returned (.bool false) ∧ Below w.heap.size w w') := fun w => by have := HC.out a b c' d w; rwa [Bool.eq_false_iff.2 hf] at this
        clear HC
        go_wp2_with (go_at_call 35; refine (HC'.out _).mono ?_; rintro e w1 ⟨rfl, b1⟩; have z1 := at_below b1 (Nat.le_refl _) hres; obtain ⟨r0, r1, r2, r3, rf0, rf1, rf2, rf3, rs, rn⟩ := cells4 z1)
        have r := at_set4 (v0 := .int .i64 0) (v1 := .int .i64 0) (v2 := .int .i64 0) (v3 := .int .i64 0) z1
        obtain ⟨g0, g1, g2, g3, -⟩ := cells4 r
        refine bodyPost_ret (by simp [results, Try.results19, go_sem, g0, g1, g2, g3]; rfl) rfl ?_
        have y1 : Below w.heap.size w w1 := below_from HB.out b1 HB.out.size
        exact ⟨rfl, (((y1.setCell (Nat.le_refl _) _).setCell (Nat.le_refl _) _).setCell (Nat.le_refl _) _).setCell (Nat.le_refl _) _⟩
set_option maxHeartbeats 4000000 in
theorem rsum_good (l : List V) (p o c : Nat) (w : World) (hn : l.length < 1152921504606846976) (hr : VRow w p o l) (hok : allOk l = true) :
    Calls Try.prog 19 #[.slice (some ⟨p, o, none⟩) l.length c] w fun e w' => e = ansV (sumF V.nil l) ∧ Below w.heap.size w w' := by
  have HO : Hid (allOk l = true) := hok
  generalize hL : l.length = n at *
  have HL : Hid (l.length = n) := hL
  have HR : Hid (VRow w p o l) := hr
  have HC : Hid (∀ (a b c d : Int) (w : World), Calls Try.prog 35 #[.agg #[.int .i64 a, .int .i64 b, .int .i64 c, .int .i64 d]] w fun e w' => e = .returned (.bool (fm a b c d)) ∧ Below w.heap.size w w') := fun a b c d w => rformed_any a b c d w
  clear hL hr hok
  go_enter Try.func19, Try.ntmps19
  go_wp2_with fail
  go_loopw [4] (fun x wr => ∃ k : Nat, x = .int .i64 k ∧ k ≤ n ∧ wr.heap[w.heap.size]? = some (.cells #[.int .i64 0, .int .i64 0, .int .i64 0, .int .i64 0] 41) ∧ Below w.heap.size w wr) (fun x _ => (n : Int).toNat - (intOf x).toNat)
  case atStart => exact ⟨0, rfl, by omega, new0, (Below.refl _ _).alloc (Nat.le_refl _) _⟩
  case round =>
    obtain ⟨k, rfl, hk, hres, hb⟩ := hrel
    have HB : Hid (Below w.heap.size w wr) := hb
    have hw0 : w.heap.size < wr.heap.size := (Array.getElem?_eq_some_iff.1 hres).1
    by_cases h0 : k = n
    · subst h0
      clear hb HC
      have hw1 : ∃ x : World, x = wr := ⟨wr, rfl⟩
      obtain ⟨w9, e9⟩ := hw1
      subst e9
      go_wp2_with fail
      go_loopw [6] (fun x wq => ∃ (j : Nat) (s : V), x = .int .i64 j ∧ j ≤ k ∧ s.ok = true ∧ sumF s (l.drop j) = sumF V.nil l ∧ wq.heap[w.heap.size]? = some (.cells #[.int .i64 0, .int .i64 0, .int .i64 0, .int .i64 0] 41) ∧ wq.heap[w9.heap.size]? = some (.cells #[.int .i64 s.a, .int .i64 s.b, .int .i64 s.c, .int .i64 s.d] 41) ∧ Below w.heap.size w wq) (fun x _ => (k : Int).toNat - (intOf x).toNat)
      case atStart => exact ⟨0, V.nil, rfl, by omega, rfl, rfl, at_alloc hres, new0, HB.out.alloc HB.out.size _⟩
      case round =>
        obtain ⟨j, s, rfl, hj, hs, hF, hres2, hsum, hb⟩ := hrel
        clear hres
        obtain ⟨sa, sb, sc, sd⟩ := s
        obtain ⟨r0, r1, r2, r3, rf0, rf1, rf2, rf3, rs, rn⟩ := cells4 hres2
        obtain ⟨s0, s1, s2, s3, sf0, sf1, sf2, sf3, ss, sn⟩ := cells4 hsum
        have HB2 : Hid (Below w.heap.size w wr) := hb
        by_cases h0 : j = k
        · subst h0
          clear hb
          have HF : Hid (sumF V.nil l = (⟨sa, sb, sc, sd⟩, 0)) := by
            rw [← hF, List.drop_eq_nil_of_le (by have := HL.out; omega)]; rfl
          clear hF
          go_wp2_with fail
          have r := at_set4 (v0 := .int .i64 sa) (v1 := .int .i64 sb) (v2 := .int .i64 sc) (v3 := .int .i64 sd) hres2
          obtain ⟨c0, c1, c2, c3, -⟩ := cells4 r
          refine bodyPost_ret (by simp [results, Try.results19, go_sem, c0, c1, c2, c3]; rfl) rfl ?_
          exact ⟨by rw [HF.out]; rfl, (((HB2.out.setCell (Nat.le_refl _) _).setCell (Nat.le_refl _) _).setCell (Nat.le_refl _) _).setCell (Nat.le_refl _) _⟩
        · have hlt : j < l.length := by have := HL.out; omega
          have hlt' : (j : Int) < (k : Int) := by omega
          have hd : decide ((j : Int) < (k : Int)) = true := decide_eq_true hlt'
          obtain ⟨v, hv⟩ : ∃ v, l[j]? = some v := ⟨l[j], List.getElem?_eq_getElem hlt⟩
          have hvok : v.ok = true := List.all_eq_true.1 HO.out _ (List.mem_of_getElem? hv)
          obtain ⟨a, b, c', d⟩ := v
          obtain ⟨c0, c1, c2, c3⟩ := (HR.out.keep hb (Nat.le_refl _)) j _ hv
          simp only [] at c0 c1 c2 c3
          clear hb
          have HA := radd_any sa sb sc sd a b c' d
          rw [show addR ⟨sa, sb, sc, sd⟩ ⟨a, b, c', d⟩ = _ from if_pos (by rw [hs, hvok]; rfl)] at HA
          rw [drop_cons hv] at hF
          simp only [sumF] at hF
          by_cases hf : (V.add ⟨sa, sb, sc, sd⟩ ⟨a, b, c', d⟩).ok = true
          · rw [if_pos hf] at HA hF
            generalize hx : V.add ⟨sa, sb, sc, sd⟩ ⟨a, b, c', d⟩ = x at *
            obtain ⟨t0, t1, t2, t3⟩ := x
            have HA' : Hid (∀ w, Calls Try.prog 33 #[.agg #[.int .i64 sa, .int .i64 sb, .int .i64 sc, .int .i64 sd], .agg #[.int .i64 a, .int .i64 b, .int .i64 c', .int .i64 d]] w fun e w' => e = .returned (.tuple #[.agg #[.int .i64 t0, .int .i64 t1, .int .i64 t2, .int .i64 t3], .int .i64 0]) ∧ Below w.heap.size w w') := fun w => HA w
            clear HA hx
            go_wp2_with fail
            have hp : p ≠ wr.heap.size := Nat.ne_of_lt (block_lt_of_cell c0)
            have h9 : w9.heap.size ≠ wr.heap.size := Nat.ne_of_lt ss
            go_cut [7, 8] from 22 to 41 (fun s7 s8 wx => ∃ g7 : Nat, s7 = .pointer (some ⟨g7, 0, none⟩) ∧ s8 = .int .i64 0 ∧ wx.heap[g7]? = some (.cells #[.int .i64 t0, .int .i64 t1, .int .i64 t2, .int .i64 t3] 41) ∧ wx.heap[w9.heap.size]? = some (.cells #[.int .i64 sa, .int .i64 sb, .int .i64 sc, .int .i64 sd] 41) ∧ wx.heap[w.heap.size]? = some (.cells #[.int .i64 0, .int .i64 0, .int .i64 0, .int .i64 0] 41) ∧ Hid (Below w.heap.size w wx))
            case first =>
              go_region_held3 (fun w' : World => (w'.cell? ⟨w9.heap.size, 0, none⟩ = some (.int .i64 sa) ∧ w'.cell? ⟨w9.heap.size, 1, none⟩ = some (.int .i64 sb) ∧ w'.cell? ⟨w9.heap.size, 2, none⟩ = some (.int .i64 sc) ∧ w'.cell? ⟨w9.heap.size, 3, none⟩ = some (.int .i64 sd)) ∧ (w'.cell? ⟨p, o + j * 4, none⟩ = some (.int .i64 a) ∧ w'.cell? ⟨p, o + j * 4 + 1, none⟩ = some (.int .i64 b) ∧ w'.cell? ⟨p, o + j * 4 + 2, none⟩ = some (.int .i64 c') ∧ w'.cell? ⟨p, o + j * 4 + 3, none⟩ = some (.int .i64 d)))
                (repeat' (first | (with_reducible assumption) | (with_reducible refine ⟨keep4c' ((Below.refl _ _).alloc (Nat.le_refl _) _) ?_, keep4c' ((Below.refl _ _).alloc (Nat.le_refl _) _) ?_⟩) | (with_reducible refine ⟨keep4t h9 ?_, keep4t hp ?_⟩) | (with_reducible refine ⟨keep4c' (by assumption) ?_, keep4c' (by assumption) ?_⟩) | (with_reducible refine keep4c' ((Below.refl _ _).alloc (Nat.le_refl _) _) ?_) | (with_reducible refine keep4t h9 ?_) | (with_reducible refine keep4t hp ?_) | (with_reducible refine keep4c' (by assumption) ?_) | go_keep))
                (first | (go_at_call 33; refine (HA'.out _).mono ?_; rintro e w1 ⟨rfl, b1⟩; have y1 : Hid (Below w.heap.size w w1) := below_from (B := w.heap.size) (w := w) (W := _) (by first | exact HB2.out.drew | exact (HB2.out.alloc HB2.out.size _).drew) b1 (by have := HB2.out.size; (try simp); omega); (have v5 := at_below b1 (Nat.le_refl _) (by first | exact at_drew hsum | exact at_drew (at_alloc hsum))); (have v2 := at_below b1 (Nat.le_refl _) (by first | exact at_drew hres2 | exact at_drew (at_alloc hres2))); (first | ((with_reducible have zz := at_below (g := wr.heap.size) (o := .cells #[.int .i64 0, .int .i64 0, .int .i64 0, .int .i64 0] 41) b1 (Nat.le_refl _) (at_drew new0)); (obtain ⟨z0, z1, z2, z3, z4, z5, z6, z7, z8, z9⟩ := cells4 zz)) | skip)))
              all_goals (go_wp2_with fail; go_meet)
              · exact ⟨_, rfl, rfl, new0, at_alloc v5, at_alloc v2, y1.out.alloc y1.out.size _⟩
              · exact ⟨_, rfl, rfl, at_set4 zz, at_other (at_other (at_other (at_other v5 h9) h9) h9) h9, at_other (at_other (at_other (at_other v2 rn) rn) rn) rn, (((y1.out.setCell (p := ⟨wr.heap.size, 0, none⟩) HB2.out.size _).setCell (p := ⟨wr.heap.size, 1, none⟩) HB2.out.size _).setCell (p := ⟨wr.heap.size, 2, none⟩) HB2.out.size _).setCell (p := ⟨wr.heap.size, 3, none⟩) HB2.out.size _⟩
            case rest =>
              obtain ⟨g7, rfl, rfl, x7, x5, x2, hbl⟩ := hcut
              clear r0 r1 r2 r3 rf0 rf1 rf2 rf3 rs rn s0 s1 s2 s3 sf0 sf1 sf2 sf3 ss sn hp h9 c0 c1 c2 c3 hsum hres2 HB2
              obtain ⟨r0, r1, r2, r3, rf0, rf1, rf2, rf3, rs, rn⟩ := cells4 x2
              obtain ⟨s0, s1, s2, s3, sf0, sf1, sf2, sf3, ss, sn⟩ := cells4 x5
              obtain ⟨c0, c1, c2, c3, cf0, cf1, cf2, cf3, cs, cn⟩ := cells4 x7
              have hne : w.heap.size ≠ w9.heap.size := Nat.ne_of_lt hw0
              go_wp2_with fail
              refine ⟨⟨j + 1, ⟨t0, t1, t2, t3⟩, by simp, by omega, hf, hF, ?_, ?_, ?_⟩, ?_⟩
              · exact at_other (at_other (at_other (at_other x2 hne) hne) hne) hne
              · exact at_set4 x5
              · exact (((hbl.out.setCell (p := ⟨w9.heap.size, 0, none⟩) (Nat.le_of_lt hw0) _).setCell (p := ⟨w9.heap.size, 1, none⟩) (Nat.le_of_lt hw0) _).setCell (p := ⟨w9.heap.size, 2, none⟩) (Nat.le_of_lt hw0) _).setCell (p := ⟨w9.heap.size, 3, none⟩) (Nat.le_of_lt hw0) _
              · simp only [intOf]; omega
          · rw [if_neg hf] at HA hF
            have HA' : Hid (∀ w, Calls Try.prog 33 #[.agg #[.int .i64 sa, .int .i64 sb, .int .i64 sc, .int .i64 sd], .agg #[.int .i64 a, .int .i64 b, .int .i64 c', .int .i64 d]] w fun e w' => e = .returned (.tuple #[.agg #[.int .i64 0, .int .i64 0, .int .i64 0, .int .i64 0], .int .i64 7]) ∧ Below w.heap.size w w') := fun w => HA w
            have HF : Hid (sumF V.nil l = (V.nil, 7)) := hF.symm
            clear HA hF hf
            go_wp2_with fail
            have hp : p ≠ wr.heap.size := Nat.ne_of_lt (block_lt_of_cell c0)
            have h9 : w9.heap.size ≠ wr.heap.size := Nat.ne_of_lt ss
            go_cut [7, 8] from 22 to 41 (fun s7 s8 wx => ∃ g7 : Nat, s7 = .pointer (some ⟨g7, 0, none⟩) ∧ s8 = .int .i64 7 ∧ wx.heap[g7]? = some (.cells #[.int .i64 0, .int .i64 0, .int .i64 0, .int .i64 0] 41) ∧ wx.heap[w9.heap.size]? = some (.cells #[.int .i64 sa, .int .i64 sb, .int .i64 sc, .int .i64 sd] 41) ∧ wx.heap[w.heap.size]? = some (.cells #[.int .i64 0, .int .i64 0, .int .i64 0, .int .i64 0] 41) ∧ Hid (Below w.heap.size w wx))
            case first =>
              go_region_held3 (fun w' : World => (w'.cell? ⟨w9.heap.size, 0, none⟩ = some (.int .i64 sa) ∧ w'.cell? ⟨w9.heap.size, 1, none⟩ = some (.int .i64 sb) ∧ w'.cell? ⟨w9.heap.size, 2, none⟩ = some (.int .i64 sc) ∧ w'.cell? ⟨w9.heap.size, 3, none⟩ = some (.int .i64 sd)) ∧ (w'.cell? ⟨p, o + j * 4, none⟩ = some (.int .i64 a) ∧ w'.cell? ⟨p, o + j * 4 + 1, none⟩ = some (.int .i64 b) ∧ w'.cell? ⟨p, o + j * 4 + 2, none⟩ = some (.int .i64 c') ∧ w'.cell? ⟨p, o + j * 4 + 3, none⟩ = some (.int .i64 d)))
                (repeat' (first | (with_reducible assumption) | (with_reducible refine ⟨keep4c' ((Below.refl _ _).alloc (Nat.le_refl _) _) ?_, keep4c' ((Below.refl _ _).alloc (Nat.le_refl _) _) ?_⟩) | (with_reducible refine ⟨keep4t h9 ?_, keep4t hp ?_⟩) | (with_reducible refine ⟨keep4c' (by assumption) ?_, keep4c' (by assumption) ?_⟩) | (with_reducible refine keep4c' ((Below.refl _ _).alloc (Nat.le_refl _) _) ?_) | (with_reducible refine keep4t h9 ?_) | (with_reducible refine keep4t hp ?_) | (with_reducible refine keep4c' (by assumption) ?_) | go_keep))
                (first | (go_at_call 33; refine (HA'.out _).mono ?_; rintro e w1 ⟨rfl, b1⟩; have y1 : Hid (Below w.heap.size w w1) := below_from (B := w.heap.size) (w := w) (W := _) (by first | exact HB2.out.drew | exact (HB2.out.alloc HB2.out.size _).drew) b1 (by have := HB2.out.size; (try simp); omega); (have v5 := at_below b1 (Nat.le_refl _) (by first | exact at_drew hsum | exact at_drew (at_alloc hsum))); (have v2 := at_below b1 (Nat.le_refl _) (by first | exact at_drew hres2 | exact at_drew (at_alloc hres2))); (first | ((with_reducible have zz := at_below (g := wr.heap.size) (o := .cells #[.int .i64 0, .int .i64 0, .int .i64 0, .int .i64 0] 41) b1 (Nat.le_refl _) (at_drew new0)); (obtain ⟨z0, z1, z2, z3, z4, z5, z6, z7, z8, z9⟩ := cells4 zz)) | skip)))
              all_goals (go_wp2_with fail; go_meet)
              · exact ⟨_, rfl, rfl, new0, at_alloc v5, at_alloc v2, y1.out.alloc y1.out.size _⟩
              · exact ⟨_, rfl, rfl, at_set4 zz, at_other (at_other (at_other (at_other v5 h9) h9) h9) h9, at_other (at_other (at_other (at_other v2 rn) rn) rn) rn, (((y1.out.setCell (p := ⟨wr.heap.size, 0, none⟩) HB2.out.size _).setCell (p := ⟨wr.heap.size, 1, none⟩) HB2.out.size _).setCell (p := ⟨wr.heap.size, 2, none⟩) HB2.out.size _).setCell (p := ⟨wr.heap.size, 3, none⟩) HB2.out.size _⟩
            case rest =>
              obtain ⟨g7, rfl, rfl, x7, x5, x2, hbl⟩ := hcut
              clear r0 r1 r2 r3 rf0 rf1 rf2 rf3 rs rn s0 s1 s2 s3 sf0 sf1 sf2 sf3 ss sn hp h9 c0 c1 c2 c3 hsum hres2 HB2
              obtain ⟨r0, r1, r2, r3, rf0, rf1, rf2, rf3, rs, rn⟩ := cells4 x2
              obtain ⟨s0, s1, s2, s3, sf0, sf1, sf2, sf3, ss, sn⟩ := cells4 x5
              obtain ⟨c0, c1, c2, c3, cf0, cf1, cf2, cf3, cs, cn⟩ := cells4 x7
              have hne : w.heap.size ≠ w9.heap.size := Nat.ne_of_lt hw0
              go_wp2_with fail
              have r := at_set4 (v0 := .int .i64 0) (v1 := .int .i64 0) (v2 := .int .i64 0) (v3 := .int .i64 0) x2
              obtain ⟨g0, g1, g2, g3, -⟩ := cells4 r
              refine bodyPost_ret (by simp [results, Try.results19, go_sem, g0, g1, g2, g3]; rfl) rfl ?_
              exact ⟨by rw [HF.out]; rfl, (((hbl.out.setCell (Nat.le_refl _) _).setCell (Nat.le_refl _) _).setCell (Nat.le_refl _) _).setCell (Nat.le_refl _) _⟩
    · have hlt : k < l.length := by have := HL.out; omega
      have hlt' : (k : Int) < (n : Int) := by omega
      have hd : decide ((k : Int) < (n : Int)) = true := decide_eq_true hlt'
      obtain ⟨v, hv⟩ : ∃ v, l[k]? = some v := ⟨l[k], List.getElem?_eq_getElem hlt⟩
      have hvok : v.ok = true := List.all_eq_true.1 HO.out _ (List.mem_of_getElem? hv)
      obtain ⟨a, b, c', d⟩ := v
      obtain ⟨c0, c1, c2, c3⟩ := (HR.out.keep hb (Nat.le_refl _)) k _ hv
      simp only [] at c0 c1 c2 c3
      clear hb
      have HC' : Hid (∀ (w : World), Calls Try.prog 35 #[.agg #[.int .i64 a, .int .i64 b, .int .i64 c', .int .i64 d]] w fun e w' => e = .returned (.bool true) ∧ Below w.heap.size w w') := fun w => by have := HC.out a b c' d w; rwa [show fm a b c' d = true from hvok] at this
      clear HC
      go_wp2_with (go_at_call 35; refine (HC'.out _).mono ?_; rintro e w1 ⟨rfl, b1⟩)
      refine ⟨⟨k + 1, ?_, by omega, ?_, ?_⟩, ?_⟩
      · simp
      · exact at_below b1 (Nat.le_refl _) hres
      · exact below_from HB.out b1 HB.out.size
      · simp only [intOf]; omega
theorem rsum_any (l : List V) (p o c : Nat) (w : World) (hn : l.length < 1152921504606846976) (hr : VRow w p o l) :
    Calls Try.prog 19 #[.slice (some ⟨p, o, none⟩) l.length c] w fun e w' => e = ansV (sumR l) ∧ Below w.heap.size w w' := by
  unfold sumR
  by_cases h : allOk l = true
  · rw [if_pos h]; exact rsum_good l p o c w hn hr h
  · rw [if_neg h]; exact rsum_bad l p o c w hn hr h

end Go.Proofs.Ytclhnclhocekkaa
