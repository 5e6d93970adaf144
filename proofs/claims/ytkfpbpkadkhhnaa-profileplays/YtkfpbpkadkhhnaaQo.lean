/-
  An operation at both profiles: Least, Earliest, Steps, all kinds.
-/
import Derived.Test.YtkfpbpkadkhhnaaQn
namespace Go.Proofs.Ytkfpbpkadkhhnaa
open Go.RowKit Go.Maps Go.Sort

section
variable {w0 w : World} {pb rb : Nat} {X : Nat → Option Obj} {C : V} {T : List Opr}
/-- what Least answers -/
def LsA (f : Int → V) (a b : Int) (m : V) (c : Int) : Prop := if spn a b = false then m = V.nil ∧ c = 2 else Lst f a b m ∧ c = 0
theorem LsA.uniq {f : Int → V} {a b : Int} {m m' : V} {c c' : Int} (h : LsA f a b m c) (k : LsA f a b m' c') : m = m' ∧ c = c' := by
  unfold LsA at h k
  split at h
  · rename_i q
    rw [if_pos q] at k
    exact ⟨h.1.trans k.1.symm, h.2.trans k.2.symm⟩
  · rename_i q
    rw [if_neg q] at k
    exact ⟨h.1.uniq k.1, h.2.trans k.2.symm⟩
theorem b_least {f : Int → V} {n : Nat} (h : BL w0 w pb rb X C f n T) (a b : Int) : Calls Try.prog 19 #[.pointer (some ⟨pb, 0, none⟩), .int .i64 a, .int .i64 b] w fun e w' => ∃ (m : V) (c : Int), e = .returned (.tuple #[.agg #[.int .i64 m.a, .int .i64 m.b, .int .i64 m.c, .int .i64 m.d], .int .i64 c]) ∧ LsA f a b m c ∧ Below w.heap.size w w' := by
  by_cases hs : spn a b = false
  · refine (least_bad w _ a b hs).mono ?_
    rintro e w' ⟨rfl, b1⟩
    exact ⟨V.nil, 2, rfl, by unfold LsA; rw [if_pos hs]; exact ⟨rfl, rfl⟩, b1⟩
  · refine (l_least h.ll a b (by simpa using hs)).mono ?_
    rintro e w' ⟨⟨m, rfl, hm⟩, b1⟩
    exact ⟨m, 0, rfl, by unfold LsA; rw [if_neg hs]; exact ⟨hm, rfl⟩, b1⟩
theorem b_rleast {f : Int → V} {n : Nat} (h : BL w0 w pb rb X C f n T) (a b : Int) : Calls Try.prog 20 #[.pointer (some ⟨rb, 0, none⟩), .int .i64 a, .int .i64 b] w fun e w' => ∃ (m : V) (c : Int), e = .returned (.tuple #[.agg #[.int .i64 m.a, .int .i64 m.b, .int .i64 m.c, .int .i64 m.d], .int .i64 c]) ∧ LsA (fT C T) a b m c ∧ Below w.heap.size w w' := by
  by_cases hs : spn a b = false
  · refine (rleast_bad w _ a b hs).mono ?_
    rintro e w' ⟨rfl, b1⟩
    exact ⟨V.nil, 2, rfl, by unfold LsA; rw [if_pos hs]; exact ⟨rfl, rfl⟩, b1⟩
  · obtain ⟨tv, hr⟩ := h.rr
    refine (rleast_any hr h.ro a b (by simpa using hs)).mono ?_
    rintro e w' ⟨⟨m, rfl, hm⟩, b1⟩
    exact ⟨m, 0, rfl, by unfold LsA; rw [if_neg hs]; exact ⟨hm, rfl⟩, b1⟩
set_option maxHeartbeats 2000000 in
theorem s_least (h : BE w0 w pb rb X C T) (o : Opr) (hk : o.kd = 3) :
    Calls Try.prog 11 #[.pointer (some ⟨pb, 0, none⟩), .pointer (some ⟨rb, 0, none⟩), opA o] w fun e w' => e = .returned (.bool true) ∧ Below w.heap.size w w' := by
  obtain ⟨kd, a, b, v⟩ := o
  obtain rfl : kd = 3 := hk
  obtain ⟨W, hW⟩ : ∃ W, W = w.alloc (opB ⟨3, a, b, v⟩) := ⟨_, rfl⟩
  have hB : Below w.heap.size w W := by rw [hW]; exact (Below.refl _ w).alloc (Nat.le_refl _) _
  have HB : Hid (Below w.heap.size w W) := hB
  have hbx : W.heap[w.heap.size]? = some (opB ⟨3, a, b, v⟩) := by rw [hW]; exact new0
  have H19 : Hid (Calls Try.prog 19 #[.pointer (some ⟨pb, 0, none⟩), .int .i64 a, .int .i64 b] W fun e w' => ∃ (m : V) (c : Int), e = .returned (.tuple #[.agg #[.int .i64 m.a, .int .i64 m.b, .int .i64 m.c, .int .i64 m.d], .int .i64 c]) ∧ Hid (Below W.heap.size W w') ∧
      Hid (∀ W1, Below W.heap.size W W1 → Calls Try.prog 20 #[.pointer (some ⟨rb, 0, none⟩), .int .i64 a, .int .i64 b] W1 fun e w' => e = .returned (.tuple #[.agg #[.int .i64 m.a, .int .i64 m.b, .int .i64 m.c, .int .i64 m.d], .int .i64 c]) ∧ Hid (Below W1.heap.size W1 w'))) := by
    refine (b_least (h.below hB) a b).mono ?_
    rintro e w' ⟨m, c, rfl, hm, b1⟩
    refine ⟨m, c, rfl, b1, fun W1 b2 => ?_⟩
    refine (b_rleast (h.below (hB.trans (b2.mono hB.size))) a b).mono ?_
    rintro e w2 ⟨m', c', rfl, hm', b3⟩
    obtain ⟨rfl, rfl⟩ := hm.uniq hm'
    exact ⟨rfl, b3⟩
  obtain ⟨c0, c1, c2, c3, c4, c5, c6⟩ := o7 hbx
  simp only at c0 c1 c2 c3 c4 c5 c6
  clear h hB
  have HX : Hid (W.heap[w.heap.size]? = some (opB ⟨3, a, b, v⟩)) := hbx
  clear hbx
  go_enter Try.func11, Try.ntmps11
  go_upto_region 1 with fail
  rw [← hW]
  clear hW
  go_upto_region 8 with (go_at_call 19; refine H19.out.mono ?_; rintro e w1 ⟨m, c, rfl, b1, H20⟩)
  obtain ⟨W3, hW3⟩ : ∃ W3, W3 = w1.alloc (vB m) := ⟨_, rfl⟩
  have y3 : Hid (Below W.heap.size W W3) := by show Below W.heap.size W W3; rw [hW3]; exact b1.out.alloc b1.out.size _
  have z3 : Bx W3 w1.heap.size m := by rw [hW3]; exact new0
  rw [← hW3]
  clear hW3 c0 c1 c2 c3 c4 c5 c6 H19 b1
  generalize w1.heap.size = mb at *
  obtain ⟨c0, c1, c2, c3, c4, c5, c6⟩ := o7 (at_below y3.out (Nat.le_refl _) HX.out)
  simp only at c0 c1 c2 c3 c4 c5 c6
  go_upto_region 9 with (go_at_call 20; refine (H20.out _ y3.out).mono ?_; rintro e w4 ⟨rfl, b4⟩)
  obtain ⟨W5, hW5⟩ : ∃ W5, W5 = w4.alloc (vB m) := ⟨_, rfl⟩
  have y5 : Hid (Below w.heap.size w W5) := by
    have q := HB.out.trans ((y3.out.trans (b4.out.mono y3.out.size)).mono HB.out.size)
    show Below w.heap.size w W5
    rw [hW5]; exact q.alloc q.size _
  have z5 : Bx W5 w4.heap.size m := by rw [hW5]; exact new0
  have z6 : Bx W5 mb m := by rw [hW5]; exact at_alloc (at_below b4.out (Nat.le_refl _) z3)
  rw [← hW5]
  clear hW5 c0 c1 c2 c3 c4 c5 c6 H20 b4 y3 z3 HX
  generalize w4.heap.size = nb at *
  obtain ⟨x0, x1, x2, x3, -⟩ := cells4 z5
  obtain ⟨y0, y1, y2, y3, -⟩ := cells4 z6
  have hq : ∀ w, (Op.equalIn 10000 23 (.agg #[.int .i64 m.a, .int .i64 m.b, .int .i64 m.c, .int .i64 m.d]) (.agg #[.int .i64 m.a, .int .i64 m.b, .int .i64 m.c, .int .i64 m.d])).run Try.prog w = .ok true w := fun w => by rw [eqV]; simp
  go_wp2_with fail
  go_ret
  exact ⟨rfl, y5.out⟩
set_option maxHeartbeats 2000000 in
theorem s_ear (h : BE w0 w pb rb X C T) (o : Opr) (hk : o.kd = 4) :
    Calls Try.prog 11 #[.pointer (some ⟨pb, 0, none⟩), .pointer (some ⟨rb, 0, none⟩), opA o] w fun e w' => e = .returned (.bool true) ∧ Below w.heap.size w w' := by
  obtain ⟨kd, a, b, v⟩ := o
  obtain rfl : kd = 4 := hk
  obtain ⟨W, hW⟩ : ∃ W, W = w.alloc (opB ⟨4, a, b, v⟩) := ⟨_, rfl⟩
  have hB : Below w.heap.size w W := by rw [hW]; exact (Below.refl _ w).alloc (Nat.le_refl _) _
  have HB : Hid (Below w.heap.size w W) := hB
  have hbx : W.heap[w.heap.size]? = some (opB ⟨4, a, b, v⟩) := by rw [hW]; exact new0
  have H18 : Hid (Calls Try.prog 18 #[.pointer (some ⟨pb, 0, none⟩), .int .i64 a, .int .i64 b, .agg #[.int .i64 v.a, .int .i64 v.b, .int .i64 v.c, .int .i64 v.d]] W fun e w' => ∃ (t c : Int), e = .returned (.tuple #[.int .i64 t, .int .i64 c]) ∧ Hid (Below W.heap.size W w') ∧
      Hid (∀ W1, Below W.heap.size W W1 → Calls Try.prog 21 #[.pointer (some ⟨rb, 0, none⟩), .int .i64 a, .int .i64 b, .agg #[.int .i64 v.a, .int .i64 v.b, .int .i64 v.c, .int .i64 v.d]] W1 fun e w' => e = .returned (.tuple #[.int .i64 t, .int .i64 c]) ∧ Hid (Below W1.heap.size W1 w'))) := by
    refine (l_ear (BL.ll (h.below hB)) a b v).mono ?_
    rintro e w' ⟨⟨t, c, rfl, hm⟩, b1⟩
    refine ⟨t, c, rfl, b1, fun W1 b2 => ?_⟩
    obtain ⟨tv, hr⟩ := BL.rr (h.below (hB.trans (b2.mono hB.size)))
    refine (rear_any hr h.ro a b v).mono ?_
    rintro e w2 ⟨⟨t', c', rfl, hm'⟩, b3⟩
    obtain ⟨rfl, rfl⟩ := hm.uniq hm'
    exact ⟨rfl, b3⟩
  obtain ⟨c0, c1, c2, c3, c4, c5, c6⟩ := o7 hbx
  simp only at c0 c1 c2 c3 c4 c5 c6
  clear h hB
  have HX : Hid (W.heap[w.heap.size]? = some (opB ⟨4, a, b, v⟩)) := hbx
  clear hbx
  go_enter Try.func11, Try.ntmps11
  go_upto_region 1 with fail
  rw [← hW]
  clear hW
  go_upto_region 12 with (go_at_call 18; refine H18.out.mono ?_; rintro e w1 ⟨t, c, rfl, b1, H21⟩)
  clear c0 c1 c2 c3 c4 c5 c6 H18
  obtain ⟨c0, c1, c2, c3, c4, c5, c6⟩ := o7 (at_below b1.out (Nat.le_refl _) HX.out)
  simp only at c0 c1 c2 c3 c4 c5 c6
  go_upto_region 13 with (go_at_call 21; refine (H21.out _ b1.out).mono ?_; rintro e w4 ⟨rfl, b4⟩)
  have y5 : Hid (Below w.heap.size w w4) := HB.out.trans ((b1.out.trans (b4.out.mono b1.out.size)).mono HB.out.size)
  clear c0 c1 c2 c3 c4 c5 c6 H21 b4 HX b1
  go_wp2_with fail
  go_ret
  exact ⟨rfl, y5.out⟩
/-- the steps of both -/
theorem b_steps (h : BE w0 w pb rb X C T) : Calls Try.prog 13 #[.pointer (some ⟨pb, 0, none⟩)] w fun e w' => ∃ (p1 : Option Addr) (n c1 : Nat), e = .returned (.slice p1 n c1) ∧
      Hid (Calls Try.prog 14 #[.pointer (some ⟨rb, 0, none⟩)] w' fun e w2 => ∃ (p2 : Option Addr) (c2 : Nat), e = .returned (.slice p2 n c2) ∧ Hid (Calls Try.prog 12 #[.slice p1 n c1, .slice p2 n c2] w2 fun e w3 => e = .returned (.bool true) ∧ Hid (Below w.heap.size w w3))) := by
  refine (l_steps (BL.ll h)).mono ?_
  rintro e w' ⟨v, L, rfl, r, b1, _⟩
  obtain ⟨p1, c1, rfl⟩ := r.r.shape
  refine ⟨p1, L.length, c1, rfl, ?_⟩
  obtain ⟨tv, hr⟩ := BL.rr (h.below b1)
  refine (rsteps_any hr h.ro).mono ?_
  rintro e w2 ⟨p2, c2, M, rfl, hM, ⟨E, hE, rfl⟩, b2⟩
  have e1 := steps_eq r.p r.f hE
  rw [← e1] at hM ⊢
  refine ⟨p2, c2, rfl, ?_⟩
  refine (same_any (r.r.below b2) hM rfl r.l).mono ?_
  rintro e w3 ⟨rfl, b3⟩
  exact ⟨rfl, (b1.trans (b2.mono b1.size)).trans (b3.mono (Nat.le_trans b1.size b2.size))⟩
set_option maxHeartbeats 2000000 in
theorem s_steps (h : BE w0 w pb rb X C T) (o : Opr) (hk : o.kd = 5) :
    Calls Try.prog 11 #[.pointer (some ⟨pb, 0, none⟩), .pointer (some ⟨rb, 0, none⟩), opA o] w fun e w' => e = .returned (.bool true) ∧ Below w.heap.size w w' := by
  obtain ⟨kd, a, b, v⟩ := o
  obtain rfl : kd = 5 := hk
  obtain ⟨W, hW⟩ : ∃ W, W = w.alloc (opB ⟨5, a, b, v⟩) := ⟨_, rfl⟩
  have hB : Below w.heap.size w W := by rw [hW]; exact (Below.refl _ w).alloc (Nat.le_refl _) _
  have HB : Hid (Below w.heap.size w W) := hB
  have hbx : W.heap[w.heap.size]? = some (opB ⟨5, a, b, v⟩) := by rw [hW]; exact new0
  have H13 : Hid (Calls Try.prog 13 #[.pointer (some ⟨pb, 0, none⟩)] W fun e w' => ∃ (p1 : Option Addr) (n c1 : Nat), e = .returned (.slice p1 n c1) ∧
      Hid (Calls Try.prog 14 #[.pointer (some ⟨rb, 0, none⟩)] w' fun e w2 => ∃ (p2 : Option Addr) (c2 : Nat), e = .returned (.slice p2 n c2) ∧ Hid (Calls Try.prog 12 #[.slice p1 n c1, .slice p2 n c2] w2 fun e w3 => e = .returned (.bool true) ∧ Hid (Below W.heap.size W w3)))) := b_steps (h.below hB)
  obtain ⟨c0, c1, c2, c3, c4, c5, c6⟩ := o7 hbx
  simp only at c0 c1 c2 c3 c4 c5 c6
  clear h hB hbx
  go_enter Try.func11, Try.ntmps11
  go_upto_region 1 with fail
  rw [← hW]
  clear hW
  go_upto_region 15 with fail
  clear c0 c1 c2 c3 c4 c5 c6
  go_wp2_with (first | (go_at_call 13; refine H13.out.mono ?_; rintro e w1 ⟨p1, n, c1, rfl, h1⟩) | (go_at_call 14; refine h1.out.mono ?_; rintro e w2 ⟨p2, c2, rfl, h2⟩) | (go_at_call 12; refine h2.out.mono ?_; rintro e w3 ⟨rfl, h3⟩))
  go_ret
  exact ⟨rfl, HB.out.trans (h3.out.mono HB.out.size)⟩
set_option maxHeartbeats 2000000 in
theorem s_else (pb rb : Nat) (o : Opr) (k1 : o.kd ≠ 1) (k2 : o.kd ≠ 2) (k3 : o.kd ≠ 3) (k4 : o.kd ≠ 4) (k5 : o.kd ≠ 5) :
    Calls Try.prog 11 #[.pointer (some ⟨pb, 0, none⟩), .pointer (some ⟨rb, 0, none⟩), opA o] w fun e w' => e = .returned (.bool true) ∧ Below w.heap.size w w' := by
  obtain ⟨kd, a, b, v⟩ := o
  simp only at k1 k2 k3 k4 k5
  have e1 : (kd == 1) = false := by simpa using k1
  have e2 : (kd == 2) = false := by simpa using k2
  have e3 : (kd == 3) = false := by simpa using k3
  have e4 : (kd == 4) = false := by simpa using k4
  have e5 : (kd == 5) = false := by simpa using k5
  obtain ⟨W, hW⟩ : ∃ W, W = w.alloc (opB ⟨kd, a, b, v⟩) := ⟨_, rfl⟩
  have HB : Hid (Below w.heap.size w W) := by show Below w.heap.size w W; rw [hW]; exact (Below.refl _ w).alloc (Nat.le_refl _) _
  have hbx : W.heap[w.heap.size]? = some (opB ⟨kd, a, b, v⟩) := by rw [hW]; exact new0
  obtain ⟨c0, c1, c2, c3, c4, c5, c6⟩ := o7 hbx
  simp only at c0 c1 c2 c3 c4 c5 c6
  clear hbx
  go_enter Try.func11, Try.ntmps11
  go_upto_region 1 with fail
  rw [← hW]
  clear hW
  go_wp2_with fail
  go_ret
  exact ⟨rfl, HB.out⟩
theorem step_any (h : BE w0 w pb rb X C T) (h4 : T.length < 4096) (o : Opr) :
    Calls Try.prog 11 #[.pointer (some ⟨pb, 0, none⟩), .pointer (some ⟨rb, 0, none⟩), opA o] w fun e w' => e = .returned (.bool true) ∧ ∃ T', T'.length ≤ T.length + 1 ∧ BE w0 w' pb rb X C T' := by
  have fin : ∀ e w', (e = Ending.returned (.bool true) ∧ Below w.heap.size w w') → (e = Ending.returned (.bool true) ∧ ∃ T', T'.length ≤ T.length + 1 ∧ BE w0 w' pb rb X C T') := fun e w' q => ⟨q.1, T, by omega, BL.below h q.2⟩
  by_cases k1 : o.kd = 1
  · refine (s_take h h4 o k1).mono ?_
    rintro e w' ⟨rfl, q⟩
    refine ⟨rfl, _, ?_, q⟩
    unfold stT
    split
    · simp
    · omega
  by_cases k2 : o.kd = 2
  · exact (s_free h o k2).mono fin
  by_cases k3 : o.kd = 3
  · exact (s_least h o k3).mono fin
  by_cases k4 : o.kd = 4
  · exact (s_ear h o k4).mono fin
  by_cases k5 : o.kd = 5
  · exact (s_steps h o k5).mono fin
  exact (s_else pb rb o k1 k2 k3 k4 k5).mono fin
end
end Go.Proofs.Ytkfpbpkadkhhnaa
