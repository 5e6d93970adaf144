/-
  The contract of the program's Sum.
-/
import Derived.Test.YtcndmhanabgamaaWalkC
namespace Go.Proofs.Ytcndmhanabgamaa
open Go.RowKit

def V.add (v u : V) : V := ⟨v.a + u.a, v.b + u.b, v.c + u.c, v.d + u.d⟩
def V.nil : V := ⟨0, 0, 0, 0⟩
def sumF : V → List V → V × Nat
  | s, [] => (s, 0)
  | s, v :: l => if (s.add v).ok then sumF (s.add v) l else (V.nil, 7)
def sumR (l : List V) : V × Nat := if allOk l then sumF V.nil l else (V.nil, 4)
/-- a vector and an error's number -/
def ansV (r : V × Nat) : Ending := .returned (.tuple #[.agg #[.int .i64 r.1.a, .int .i64 r.1.b, .int .i64 r.1.c, .int .i64 r.1.d], .int .i64 r.2])

theorem cells4 {w : World} {g : Nat} {x y z u : Value} {ty : TypeId} (h : w.heap[g]? = some (.cells #[x, y, z, u] ty)) :
    w.cell? ⟨g, 0, none⟩ = some x ∧ w.cell? ⟨g, 1, none⟩ = some y ∧ w.cell? ⟨g, 2, none⟩ = some z ∧ w.cell? ⟨g, 3, none⟩ = some u ∧ w.frozen? ⟨g, 0, none⟩ = false ∧ w.frozen? ⟨g, 1, none⟩ = false ∧ w.frozen? ⟨g, 2, none⟩ = false ∧ w.frozen? ⟨g, 3, none⟩ = false ∧ g < w.heap.size ∧ ¬ g = w.heap.size := by
  have h2 : g < w.heap.size := (Array.getElem?_eq_some_iff.1 h).1
  exact ⟨Lib.cell_of_heap h 0, Lib.cell_of_heap h 1, Lib.cell_of_heap h 2, Lib.cell_of_heap h 3, Lib.frozen_of_heap h 0, Lib.frozen_of_heap h 1, Lib.frozen_of_heap h 2, Lib.frozen_of_heap h 3, h2, by omega⟩
theorem at_below {W w1 : World} {g : Nat} {o : Obj} {B : Nat} (b : Below B W w1) (hB : W.heap.size ≤ B) (h : W.heap[g]? = some o) : w1.heap[g]? = some o :=
  (b.block g (Nat.lt_of_lt_of_le (Array.getElem?_eq_some_iff.1 h).1 hB)).trans h
theorem at_set4 {W : World} {g : Nat} {x y z u v0 v1 v2 v3 : Value} {ty : TypeId} (h : W.heap[g]? = some (.cells #[x, y, z, u] ty)) : ((((W.setCell ⟨g, 0, none⟩ v0).setCell ⟨g, 1, none⟩ v1).setCell ⟨g, 2, none⟩ v2).setCell ⟨g, 3, none⟩ v3).heap[g]? = some (.cells #[v0, v1, v2, v3] ty) :=
  heap_setCell_same _ g 3 #[v0, v1, v2, u] ty v3 (heap_setCell_same _ g 2 #[v0, v1, z, u] ty v2 (heap_setCell_same _ g 1 #[v0, y, z, u] ty v1 (heap_setCell_same W g 0 #[x, y, z, u] ty v0 h)))
theorem at_other {W : World} {g g' k : Nat} {v : Value} {o : Obj} (h : W.heap[g]? = some o) (hne : g ≠ g') : (W.setCell ⟨g', k, none⟩ v).heap[g]? = some o := (Below.heap_setCell _ _ _ _ hne).trans h

set_option maxHeartbeats 1000000 in
theorem sum_bad (s : Value) (w : World)
    (HA : Hid (∀ (w1 : World), Below w.heap.size w w1 → Calls Try.prog 26 #[s] w1 fun e w' => e = .returned (.bool false) ∧ Below w1.heap.size w1 w')) :
    Calls Try.prog 20 #[s] w fun e w' => e = ansV (V.nil, 4) ∧ Below w.heap.size w w' := by
  go_enter Try.func20, Try.ntmps20
  go_wp2_with (go_at_call 26; refine (HA.out _ ((Below.refl _ w).alloc (Nat.le_refl _) _)).mono ?_; rintro e w1 ⟨rfl, b1⟩; have z1 := at_below b1 (Nat.le_refl _) new0; obtain ⟨r0, r1, r2, r3, rf0, rf1, rf2, rf3, rs, rn⟩ := cells4 z1)
  have r := at_set4 (v0 := .int .i64 0) (v1 := .int .i64 0) (v2 := .int .i64 0) (v3 := .int .i64 0) z1
  obtain ⟨c0, c1, c2, c3, -⟩ := cells4 r
  refine bodyPost_ret (by simp [results, Try.results20, go_sem, c0, c1, c2, c3]; rfl) rfl ?_
  have y1 : Below w.heap.size w w1 := below_from ((Below.refl _ w).alloc (Nat.le_refl _) _) b1 (by simp)
  exact ⟨rfl, (((y1.setCell (Nat.le_refl _) _).setCell (Nat.le_refl _) _).setCell (Nat.le_refl _) _).setCell (Nat.le_refl _) _⟩

theorem okV {v : V} (h : v.ok = true) : (0 ≤ v.a ∧ v.a ≤ 1099511627776) ∧ (0 ≤ v.b ∧ v.b ≤ 1099511627776) ∧ (0 ≤ v.c ∧ v.c ≤ 1099511627776) ∧ (0 ≤ v.d ∧ v.d ≤ 1099511627776) := by
  unfold V.ok fm okI at h
  simpa using h
theorem drop_cons {l : List V} {k : Nat} {v : V} (h : l[k]? = some v) : l.drop k = v :: l.drop (k + 1) := by
  obtain ⟨hk, rfl⟩ := List.getElem?_eq_some_iff.1 h
  exact List.drop_eq_getElem_cons hk

theorem wrap_ok {x : Int} (h0 : -9223372036854775808 ≤ x) (h1 : x < 9223372036854775808) : IntKind.i64.wrap x = x := by
  rw [IntKind.wrap_i64]; omega

set_option maxHeartbeats 2000000 in
theorem sum_good (l : List V) (p o c : Nat) (w : World) (hn : l.length < 1152921504606846976) (hr : Row w p o l) (hok : allOk l = true) :
    Calls Try.prog 20 #[.slice (some ⟨p, o, none⟩) l.length c] w fun e w' => e = ansV (sumF V.nil l) ∧ Below w.heap.size w w' := by
  have HA : Hid (∀ (w : World), Row w p o l → Calls Try.prog 26 #[.slice (some ⟨p, o, none⟩) l.length c] w fun e w' => e = .returned (.bool true) ∧ Below w.heap.size w w') := fun w h => by have := allFormed_any l p o c w hn h; rwa [hok] at this
  have HO : Hid (allOk l = true) := hok
  generalize hL : l.length = n at *
  have HL : Hid (l.length = n) := hL
  have HR : Hid (Row w p o l) := hr
  have HC : Hid (∀ (a b c d : Int) (w : World), Calls Try.prog 10 #[.agg #[.int .i64 a, .int .i64 b, .int .i64 c, .int .i64 d]] w fun e w' => e = .returned (.bool (fm a b c d)) ∧ Below w.heap.size w w') := fun a b c d w => formed_any a b c d w
  clear hL hr hok
  go_enter Try.func20, Try.ntmps20
  go_wp2_with (go_at_call 26; refine (HA.out _ (HR.out.keep ((Below.refl _ w).alloc (Nat.le_refl _) _) (Nat.le_refl _))).mono ?_; rintro e w1 ⟨rfl, b1⟩; have z1 := at_below b1 (Nat.le_refl _) new0; have y1 : Hid (Below w.heap.size w w1) := below_from ((Below.refl _ w).alloc (Nat.le_refl _) _) b1 (by simp))
  go_loopw [15] (fun x wr => ∃ (k : Nat) (s : V), x = .int .i64 k ∧ k ≤ n ∧ s.ok = true ∧ sumF s (l.drop k) = sumF V.nil l ∧ wr.heap[w.heap.size]? = some (.cells #[.int .i64 0, .int .i64 0, .int .i64 0, .int .i64 0] 23) ∧ wr.heap[w1.heap.size]? = some (.cells #[.int .i64 s.a, .int .i64 s.b, .int .i64 s.c, .int .i64 s.d] 23) ∧ Below w.heap.size w wr) (fun x _ => (n : Int).toNat - (intOf x).toNat)
  case atStart => exact ⟨0, V.nil, rfl, by omega, rfl, rfl, at_alloc z1, new0, y1.out.alloc y1.out.size _⟩
  case round =>
    have hne : w.heap.size ≠ w1.heap.size := by have := b1.size; simp at this; omega
    obtain ⟨k, s, rfl, hk, hs, hF, hres, hsum, hb⟩ := hrel
    clear b1 z1
    obtain ⟨sa, sb, sc, sd⟩ := s
    obtain ⟨r0, r1, r2, r3, rf0, rf1, rf2, rf3, rs, rn⟩ := cells4 hres
    obtain ⟨s0, s1, s2, s3, sf0, sf1, sf2, sf3, ss, sn⟩ := cells4 hsum
    have HB : Hid (Below w.heap.size w wr) := hb
    by_cases h0 : k = n
    · subst h0
      clear hb
      have hF' : sumF V.nil l = (⟨sa, sb, sc, sd⟩, 0) := by
        rw [← hF, List.drop_eq_nil_of_le (by have := HL.out; omega)]; rfl
      have HF : Hid (sumF V.nil l = (⟨sa, sb, sc, sd⟩, 0)) := hF'
      clear hF hF'
      go_wp2_with fail
      have r := at_set4 (v0 := .int .i64 sa) (v1 := .int .i64 sb) (v2 := .int .i64 sc) (v3 := .int .i64 sd) hres
      obtain ⟨c0, c1, c2, c3, -⟩ := cells4 r
      refine bodyPost_ret (by simp [results, Try.results20, go_sem, c0, c1, c2, c3]; rfl) rfl ?_
      exact ⟨by rw [HF.out]; rfl, (((HB.out.setCell (Nat.le_refl _) _).setCell (Nat.le_refl _) _).setCell (Nat.le_refl _) _).setCell (Nat.le_refl _) _⟩
    · have hlt : k < l.length := by have := HL.out; omega
      have hlt' : (k : Int) < (n : Int) := by omega
      have hd : decide ((k : Int) < (n : Int)) = true := decide_eq_true hlt'
      obtain ⟨v, hv⟩ : ∃ v, l[k]? = some v := ⟨l[k], List.getElem?_eq_getElem hlt⟩
      have hvok : v.ok = true := List.all_eq_true.1 HO.out _ (List.mem_of_getElem? hv)
      obtain ⟨a, b, c', d⟩ := v
      obtain ⟨c0, c1, c2, c3⟩ := (HR.out.keep hb (Nat.le_refl _)) k _ hv
      simp only [] at c0 c1 c2 c3
      clear hb
      obtain ⟨t0, e0⟩ : ∃ t, IntKind.i64.wrap (sa + a) = t := ⟨_, rfl⟩
      obtain ⟨t1, e1⟩ : ∃ t, IntKind.i64.wrap (sb + b) = t := ⟨_, rfl⟩
      obtain ⟨t2, e2⟩ : ∃ t, IntKind.i64.wrap (sc + c') = t := ⟨_, rfl⟩
      obtain ⟨t3, e3⟩ : ∃ t, IntKind.i64.wrap (sd + d) = t := ⟨_, rfl⟩
      have i0 := ix0 (.int .i64 a) (.int .i64 b) (.int .i64 c') (.int .i64 d)
      have i1 := ix1 (.int .i64 a) (.int .i64 b) (.int .i64 c') (.int .i64 d)
      have i2 := ix2 (.int .i64 a) (.int .i64 b) (.int .i64 c') (.int .i64 d)
      have i3 := ix3 (.int .i64 a) (.int .i64 b) (.int .i64 c') (.int .i64 d)
      have hsb := okV hs
      have hvb := okV hvok
      simp only [] at hsb hvb
      have q0 : t0 = sa + a := by rw [← e0, wrap_ok (by omega) (by omega)]
      have q1 : t1 = sb + b := by rw [← e1, wrap_ok (by omega) (by omega)]
      have q2 : t2 = sc + c' := by rw [← e2, wrap_ok (by omega) (by omega)]
      have q3 : t3 = sd + d := by rw [← e3, wrap_ok (by omega) (by omega)]
      have HF : Hid (sumF V.nil l = if fm t0 t1 t2 t3 then sumF ⟨t0, t1, t2, t3⟩ (l.drop (k + 1)) else (V.nil, 7)) := by
        rw [q0, q1, q2, q3, ← hF, drop_cons hv]; rfl
      have HW : Hid (w.heap.size ≤ w1.heap.size) := y1.out.size
      clear hsb hvb hs hvok q0 q1 q2 q3 hF hv
      by_cases hf : fm t0 t1 t2 t3 = true
      · have HC' : Hid (∀ (w : World), Calls Try.prog 10 #[.agg #[.int .i64 t0, .int .i64 t1, .int .i64 t2, .int .i64 t3]] w fun e w' => e = .returned (.bool true) ∧ Below w.heap.size w w') := fun w => by have := HC.out t0 t1 t2 t3 w; rwa [hf] at this
        clear HC
        go_wp2_with fail
        refine wp_loop_rounds 5 ?_
        repeat any_goals (rw [rounds_succ]; go_wp2_with (go_at_call 10; refine (HC'.out _).mono ?_; rintro e w2 ⟨rfl, b2⟩))
        have HF' : sumF ⟨t0, t1, t2, t3⟩ (l.drop (k + 1)) = sumF V.nil l := by rw [HF.out, if_pos hf]
        refine ⟨⟨k + 1, ⟨t0, t1, t2, t3⟩, by simp, by omega, hf, HF', ?_, ?_, ?_⟩, ?_⟩
        · exact at_below b2 (Nat.le_refl _) (at_alloc (at_other (at_other (at_other (at_other hres hne) hne) hne) hne))
        · exact at_below b2 (Nat.le_refl _) (at_alloc (at_set4 hsum))
        · have b3 := ((((HB.out.setCell (p := ⟨w1.heap.size, 0, none⟩) HW.out (.int .i64 t0)).setCell (p := ⟨w1.heap.size, 1, none⟩) HW.out (.int .i64 t1)).setCell (p := ⟨w1.heap.size, 2, none⟩) HW.out (.int .i64 t2)).setCell (p := ⟨w1.heap.size, 3, none⟩) HW.out (.int .i64 t3))
          exact below_from (b3.alloc b3.size _) b2 (by have := HB.out.size; simp; omega)
        · simp only [intOf]; omega
      · have HC' : Hid (∀ (w : World), Calls Try.prog 10 #[.agg #[.int .i64 t0, .int .i64 t1, .int .i64 t2, .int .i64 t3]] w fun e w' => e = .returned (.bool false) ∧ Below w.heap.size w w') := fun w => by have := HC.out t0 t1 t2 t3 w; rwa [Bool.eq_false_iff.2 hf] at this
        clear HC
        go_wp2_with fail
        refine wp_loop_rounds 5 ?_
        repeat any_goals (rw [rounds_succ]; go_wp2_with (go_at_call 10; refine (HC'.out _).mono ?_; rintro e w2 ⟨rfl, b2⟩; have z2 := at_below b2 (Nat.le_refl _) (at_alloc (at_other (at_other (at_other (at_other hres hne) hne) hne) hne)); obtain ⟨k0, k1, k2, k3, kf0, kf1, kf2, kf3, ks, kn⟩ := cells4 z2))
        have r := at_set4 (v0 := .int .i64 0) (v1 := .int .i64 0) (v2 := .int .i64 0) (v3 := .int .i64 0) z2
        obtain ⟨g0, g1, g2, g3, -⟩ := cells4 r
        refine bodyPost_ret (by simp [results, Try.results20, go_sem, g0, g1, g2, g3]; rfl) rfl ?_
        have b3 := ((((HB.out.setCell (p := ⟨w1.heap.size, 0, none⟩) HW.out (.int .i64 t0)).setCell (p := ⟨w1.heap.size, 1, none⟩) HW.out (.int .i64 t1)).setCell (p := ⟨w1.heap.size, 2, none⟩) HW.out (.int .i64 t2)).setCell (p := ⟨w1.heap.size, 3, none⟩) HW.out (.int .i64 t3))
        have b4 := below_from (b3.alloc b3.size _) b2 (by have := HB.out.size; simp; omega)
        exact ⟨by rw [HF.out, if_neg hf]; rfl, (((b4.setCell (Nat.le_refl _) _).setCell (Nat.le_refl _) _).setCell (Nat.le_refl _) _).setCell (Nat.le_refl _) _⟩

theorem sum_any (l : List V) (p o c : Nat) (w : World) (hn : l.length < 1152921504606846976) (hr : Row w p o l) :
    Calls Try.prog 20 #[.slice (some ⟨p, o, none⟩) l.length c] w fun e w' => e = ansV (sumR l) ∧ Below w.heap.size w w' := by
  unfold sumR
  by_cases h : allOk l = true
  · rw [if_pos h]; exact sum_good l p o c w hn hr h
  · rw [if_neg h]
    refine sum_bad _ w fun w1 b => ?_
    have := allFormed_any l p o c w1 hn (hr.keep b (Nat.le_refl _))
    rwa [Bool.eq_false_iff.2 h] at this

end Go.Proofs.Ytcndmhanabgamaa
