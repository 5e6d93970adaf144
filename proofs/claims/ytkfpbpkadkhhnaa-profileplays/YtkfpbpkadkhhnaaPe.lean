/-
  Earliest of no profile.
-/
import Derived.Test.YtkfpbpkadkhhnaaPd
namespace Go.Proofs.Ytkfpbpkadkhhnaa
open Go.RowKit Go.Maps

set_option maxHeartbeats 2000000 in
theorem ear_nil (w : World) (a n : Int) (v : V) (hv : v.ok = true) (hr : rgE a n = true) :
    Calls Try.prog 18 #[.pointer none, .int .i64 a, .int .i64 n, .agg #[.int .i64 v.a, .int .i64 v.b, .int .i64 v.c, .int .i64 v.d]] w fun e w' => (∃ t c : Int, e = .returned (.tuple #[.int .i64 t, .int .i64 c]) ∧ EarA V.nil (fa V.nil []) a n v t c) ∧ Below w.heap.size w w' := by
  obtain ⟨S, hS⟩ : ∃ S : PS, S = ⟨V.nil, .slice none 0 0, [], 0⟩ := ⟨_, rfl⟩
  have hP : Pf S.C S.l := by rw [hS]; exact Pf.nil rfl
  have hn : S.l.length ≤ 60000 := by rw [hS]; simp
  have e1 : V.nil = S.C := by rw [hS]
  have e2 : ([] : List St) = S.l := by rw [hS]
  rw [e1, e2]
  have HZ : Hid (S = ⟨V.nil, .slice none 0 0, [], 0⟩) := hS
  clear hS e1 e2
  have H : Hid (∀ w, Calls Try.prog 22 #[.agg #[.int .i64 v.a, .int .i64 v.b, .int .i64 v.c, .int .i64 v.d]] w fun e w' => e = .returned (.bool true) ∧ Below w.heap.size w w') := fun w => by have := formed_V v w; rwa [hv] at this
  have HR : 0 ≤ a ∧ a ≤ 1099511627776 ∧ 1 ≤ n ∧ n ≤ 1099511627776 := of_decide_eq_true hr
  obtain ⟨a0, a1, n0, n1⟩ := HR
  have HE : Hid (∀ t c : Int, (if ¬ v.le S.C then t = 0 ∧ c = 7 else ∃ u, Ear (fa S.C S.l) a n v u ∧ (if 1099511627776 < u + n then t = 0 ∧ c = 2 else t = u ∧ c = 0)) → EarA S.C (fa S.C S.l) a n v t c) := fun t c q => by
    unfold EarA
    rw [if_neg (by simp [hv]), if_neg (by simp [hr])]
    exact q
  have HP : Hid (Pf S.C S.l) := hP
  have HNL : Hid (S.l.length ≤ 60000) := hn
  have b0 : ¬ a < 0 := by omega
  have b1' : ¬ 1099511627776 < a := by omega
  have b2' : ¬ n < 1 := by omega
  have b3' : ¬ 1099511627776 < n := by omega
  clear hP hv hr hn
  go_enter Try.func18, Try.ntmps18
  go_wp2_with (go_at_call 22; refine (H.out _).mono ?_)
  first | rintro e w1 rfl b1 | rintro e w1 ⟨rfl, b1⟩
  have z1 := at_below b1 (by simp) new0
  have y1 : Hid (Below w.heap.size w w1) := Below.trans (by go_grown) (b1.mono (by simp))
  obtain ⟨q0, q1, q2, q3, -⟩ := cells4 z1
  have hlt : Hid (w.heap.size < w1.heap.size) := (Array.getElem?_eq_some_iff.1 z1).1
  clear H b1
  go_wp2_with fail
  obtain ⟨O, hO⟩ : ∃ O : Obj, O = .cells #[.int .i64 0, .int .i64 0, .int .i64 0, .int .i64 0, .slice none 0 0, .int .i64 0] 58 (0, 0) := ⟨_, rfl⟩
  have z1' := at_alloc (o := O) z1
  have y1' : Hid (Below w.heap.size w (w1.alloc O)) := y1.out.alloc y1.out.size _
  have HM : Hid (Mem (w1.alloc O) w1.heap.size S) := by rw [HZ.out, hO]; exact mem_new (v := V.nil)
  rw [← hO]
  clear hO q0 q1 q2 q3 z1 y1 hlt
  generalize hpb : w1.heap.size = pb at *
  clear hpb
  generalize w1.alloc O = W1 at *
  have HC0 : Hid (S.C = V.nil) := by show S.C = V.nil; rw [HZ.out]
  obtain ⟨q0, q1, q2, q3, -⟩ := cells4 z1'
  obtain ⟨m0, m1, m2, m3, -, -⟩ := HM.out.cells
  obtain ⟨bt, hbt⟩ : ∃ bt, bt = decide (v.le S.C) := ⟨_, rfl⟩
  have HT : Hid (bt = decide (v.le S.C)) := hbt
  have H27 : Hid (Calls Try.prog 27 #[.agg #[.int .i64 v.a, .int .i64 v.b, .int .i64 v.c, .int .i64 v.d], .agg #[.int .i64 S.C.a, .int .i64 S.C.b, .int .i64 S.C.c, .int .i64 S.C.d]] W1.drew fun e w2 => e = .returned (.bool bt) ∧ Hid (Below w.heap.size w w2 ∧ Bx w2 w.heap.size v ∧ Below W1.heap.size W1 w2)) := by
    refine (fits_V v S.C _).mono ?_
    rintro e w2 ⟨rfl, b2⟩
    have hB : Below W1.heap.size W1 w2 := ((Below.refl _ W1).drew).trans b2
    exact ⟨by rw [hbt], y1'.out.trans (hB.mono y1'.out.size), at_below hB (Nat.le_refl _) z1', hB⟩
  clear hbt z1'
  generalize hbx : w.heap.size = bx at *
  have HBX : Hid (w.heap.size = bx) := hbx
  clear hbx
  go_region_with (go_at_call 27; refine H27.out.mono ?_; rintro e w2 ⟨rfl, h2⟩)
  all_goals clear H27 q0 q1 q2 q3 m0 m1 m2 m3
  all_goals have hbl : Hid (Below w.heap.size w w2) := h2.out.1.mono (Nat.le_of_eq HBX.out)
  all_goals obtain ⟨q0, q1, q2, q3, -⟩ := cells4 h2.out.2.1
  all_goals have hb2 : Hid (Below W1.heap.size W1 w2) := h2.out.2.2
  all_goals cases bt
  all_goals first
    | (have hC : Hid (¬ v.le S.C) := of_decide_eq_false HT.out.symm
       go_wp2_with fail
       go_ret2
       exact ⟨⟨0, 7, rfl, HE.out _ _ (by rw [if_pos hC.out]; exact ⟨rfl, rfl⟩)⟩, hbl.out⟩)
    | (have hC0 : v.le S.C := of_decide_eq_true HT.out.symm
       have hC : Hid (v.le S.C) := hC0
       clear hC0
       have H31 : Hid (Calls Try.prog 31 #[.pointer (some ⟨pb, 0, none⟩), .int .i64 a, .int .i64 n, .agg #[.int .i64 v.a, .int .i64 v.b, .int .i64 v.c, .int .i64 v.d]] w2 fun e w' => (∃ t : Int, e = .returned (.int .i64 t) ∧ Hid (Ear (fa S.C S.l) a n v t ∧ t ≤ 1099511627776)) ∧ Hid (Below w2.heap.size w2 w')) := search_at (HM.out.below hb2.out) HP.out HNL.out a n v a0 a1 (by omega) hC.out
       go_wp2_with (go_at_call 31; refine H31.out.mono ?_)
       rintro e w3 ⟨⟨t, rfl, ht⟩, b3⟩
       have hBf : Hid (Below w.heap.size w w3) := hbl.out.trans (b3.out.mono hbl.out.size)
       have ht0 : 0 ≤ t := by have := ht.out.1.ge; omega
       have ht1 := ht.out.2
       have hw : IntKind.i64.wrap (t + n) = t + n := by rw [IntKind.wrap_i64]; omega
       clear H31
       by_cases hm : 1099511627776 < t + n
       · go_wp2_with fail
         go_ret2
         exact ⟨⟨0, 2, rfl, HE.out _ _ (by rw [if_neg (fun q => q hC.out)]; exact ⟨t, ht.out.1, by rw [if_pos hm]; exact ⟨rfl, rfl⟩⟩)⟩, hBf.out⟩
       · go_wp2_with fail
         go_ret2
         exact ⟨⟨t, 0, rfl, HE.out _ _ (by rw [if_neg (fun q => q hC.out)]; exact ⟨t, ht.out.1, by rw [if_neg (by omega)]; exact ⟨rfl, rfl⟩⟩)⟩, hBf.out⟩)
end Go.Proofs.Ytkfpbpkadkhhnaa
