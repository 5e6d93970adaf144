/-
  The reference's Take.
-/
import Derived.Test.YtkfpbpkadkhhnaaQf
namespace Go.Proofs.Ytkfpbpkadkhhnaa
open Go.RowKit Go.Maps

theorem info70 : (Try.prog.info? 70).map (fun i => (i.zero, i.size, i.bytes)) = some (some (.agg #[.int .i64 0, .int .i64 0, .int .i64 0, .int .i64 0, .int .i64 0, .int .i64 0]), 6, 48) := by kernel_rfl
/-- what the reference's Take leaves -/
structure RT (w w' : World) (rb : Nat) (C : V) (tv tv' : Value) (T : List Opr) : Prop where
  m : RP w' rb C tv' T
  k : Kp (Rp rb tv) w w'
  f : ∀ k, Rp rb tv' k → Rp rb tv k ∨ w.heap.size ≤ k
/-- a take laid behind the others, as a step of a region that draws -/
theorem step_take {ops : Array Oper} {o : Oper} {a : Act} {W : World} {K : Act → World → Prop} {Q : Exit → Act → World → Prop} {F : Prop} (hgd : o.guard = none) (s x : Operand) (ho : o.op = .call { callee := .builtin .append, args := #[s, x], argTypes := #[32, 32] })
    (w : World) (rb : Nat) (C : V) (p : Option Addr) (n c : Nat) (T : List Opr) (t : Opr) (hs : a.eval s = .slice p n c) (hn : T.length = n) (hr : RP w rb C (.slice p n c) T) (hb : Below w.heap.size w W) (h4 : n ≤ 4096)
    (g cc : Nat) (hx : a.eval x = .slice (some ⟨g, 0, none⟩) 1 cc) (hg : W.heap[g]? = some (.cells (tkv t).toArray 70 (0, 0)))
    (h : ∀ g3 c3 w3, w3.cell? ⟨rb, 4, none⟩ = some (.slice p n c) ∧ w3.frozen? ⟨rb, 4, none⟩ = false → Hid (RT w (w3.setCell ⟨rb, 4, none⟩ (.slice (some ⟨g3, 0, none⟩) (n + 1) c3)) rb C (.slice p n c) (.slice (some ⟨g3, 0, none⟩) (n + 1) c3) (T ++ [t])) → K (a.put o.dst (.slice (some ⟨g3, 0, none⟩) (n + 1) c3)) w3) :
    if Region.wanted o (yielded ops a.tmps) = true then Oper.wp Try.prog o a W K Q else F := by
  obtain ⟨i0, hi, hz0, hz1, hz2⟩ := info_parts info70
  have hR := hr.below hb
  have hrow := hR.rw
  unfold TRow at hrow
  rw [hn] at hrow
  obtain ⟨v', w3, hrun, h2, h3, _, h5⟩ := run_append_own_at (P := Try.prog) W 0 32 o.type 70 i0 _ 6 48 Try.underlying32 hi hz0 hz1 hz2 rfl (by decide) (.slice p n c) n (flatT T) hrow ⟨g, 0, none⟩ 1 cc (tkv t) rfl (fun j u hj => by rw [Addr.add_lit, Nat.zero_add, cell_of hg]; simpa using hj) (fun u hu => flatT_one (l := [t]) u (by simpa [flatT] using hu)) (by unfold maxLen; omega) (by omega) (Nat.zero_le _)
  have R3 : TRow w3 v' (T ++ [t]) := by
    unfold TRow
    rw [List.length_append, hn]
    have e : flatT (T ++ [t]) = flatT T ++ tkv t := by simp [flatT]
    rw [e]
    exact h2
  obtain ⟨g3, c3, e3⟩ := R3.row (by simp)
  rw [show (T ++ [t]).length = n + 1 by rw [List.length_append, hn]; rfl] at e3
  subst e3
  have hne : (Value.slice p n c).ownBlock ≠ some rb := fun q => by
    rcases hr.rw.2 with ⟨e0, _⟩ | ⟨g', cap, cur, e0, _, hgg, _⟩
    · rw [e0] at q; cases q
    · rw [e0] at q
      cases q
      have := hr.hp
      rw [hgg] at this
      injection this with this
      injection this with _ q
      exact absurd q (by decide)
  have hrb : w3.heap[rb]? = some (.cells #[.int .i64 C.a, .int .i64 C.b, .int .i64 C.c, .int .i64 C.d, .slice p n c] 34 (0, 0)) := (h3.block rb (hR.lt rb (.inl rfl)) fun e => hne e.symm).trans hR.hp
  have hg3 : g3 ≠ rb := fun e => by
    rcases h5 with q | q
    · exact hne (by rw [← q, e]; rfl)
    · have h6 := hR.lt rb (.inl rfl)
      have : g3 = W.heap.size := by injection q
      omega
  have hrk : TRow (w3.setCell ⟨rb, 4, none⟩ (.slice (some ⟨g3, 0, none⟩) (n + 1) c3)) (.slice (some ⟨g3, 0, none⟩) (n + 1) c3) (T ++ [t]) := R3.keep fun k q => Below.heap_setCell _ _ _ _ fun e => by
    have h7 : g3 = k := by injection q
    exact hg3 (h7.trans e)
  have key := h g3 c3 w3 ⟨by rw [cell_of hrb]; rfl, fz hrb _⟩ ⟨⟨setB (i := 4) hrb _, hrk⟩, ?_, fun k hk => ?_⟩
  · have hw : Region.wanted o (yielded ops a.tmps) = true := by simp [Region.wanted, hgd]
    rw [if_pos hw]
    unfold Oper.wp
    simp [execOp, ho, resolve, invoke, builtin, hs, hx, hrun, Result.andThen]
    exact key
  · have k1 : Kp (Rp rb (.slice p n c)) w W := Kp.of_below hb
    have k2 : Kp (Rp rb (.slice p n c)) W w3 := Kp.of_grown h3 fun k q => .inr q
    exact (k1.trans k2 fun _ _ q => q).trans (Kp.of_set _ _ _ (.inl rfl)) fun _ _ q => q
  · rcases hk with rfl | hk
    · exact .inl (.inl rfl)
    · rcases h5 with q | q
      · exact .inl (.inr (q ▸ hk))
      · rw [q] at hk
        cases hk
        exact .inr hb.size
set_option maxHeartbeats 400000 in
theorem rtake_bad (w : World) (p : Value) (a b : Int) (v : V) (hv : v.ok = false) : Calls Try.prog 23 #[p, .int .i64 a, .int .i64 b, .agg #[.int .i64 v.a, .int .i64 v.b, .int .i64 v.c, .int .i64 v.d]] w fun e w' => e = .returned (.int .i64 4) ∧ Below w.heap.size w w' := by
  have H : Hid (∀ w, Calls Try.prog 10 #[.agg #[.int .i64 v.a, .int .i64 v.b, .int .i64 v.c, .int .i64 v.d]] w fun e w' => e = .returned (.bool false) ∧ Below w.heap.size w w') := fun w => by have := rformed_V v w; rwa [hv] at this
  clear hv
  go_enter Try.func23, Try.ntmps23
  go_wp2_with (go_at_call 10; refine (H.out _).mono ?_)
  first | rintro e w1 rfl b1 | rintro e w1 ⟨rfl, b1⟩
  have y1 : Hid (Below w.heap.size w w1) := Below.trans (by go_grown) (b1.mono (by simp))
  go_wp2_with fail
  go_ret
  exact ⟨rfl, y1.out⟩
set_option maxHeartbeats 400000 in
theorem rtake_range (w : World) (p : Value) (a b : Int) (v : V) (hv : v.ok = true) (hs : spn a b = false) : Calls Try.prog 23 #[p, .int .i64 a, .int .i64 b, .agg #[.int .i64 v.a, .int .i64 v.b, .int .i64 v.c, .int .i64 v.d]] w fun e w' => e = .returned (.int .i64 2) ∧ Below w.heap.size w w' := by
  have H : Hid (∀ w, Calls Try.prog 10 #[.agg #[.int .i64 v.a, .int .i64 v.b, .int .i64 v.c, .int .i64 v.d]] w fun e w' => e = .returned (.bool true) ∧ Below w.heap.size w w') := fun w => by have := rformed_V v w; rwa [hv] at this
  have H20 : Hid (∀ w, Calls Try.prog 20 #[p, .int .i64 a, .int .i64 b] w fun e w' => e = .returned (.tuple #[.agg #[.int .i64 0, .int .i64 0, .int .i64 0, .int .i64 0], .int .i64 2]) ∧ Below w.heap.size w w') := fun w => rleast_bad w _ a b hs
  clear hv hs
  go_enter Try.func23, Try.ntmps23
  go_wp2_with (go_at_call 10; refine (H.out _).mono ?_)
  first | rintro e w1 rfl b1 | rintro e w1 ⟨rfl, b1⟩
  have y1 : Hid (Below w.heap.size w w1) := Below.trans (by go_grown) (b1.mono (by simp))
  clear H b1
  go_wp2_with (go_at_call 20; refine (H20.out _).mono ?_)
  first | rintro e w2 rfl b2 | rintro e w2 ⟨rfl, b2⟩
  have y2 : Hid (Below w.heap.size w w2) := y1.out.trans (b2.mono y1.out.size)
  clear b2
  go_wp2_with fail
  go_ret
  exact ⟨rfl, y2.out.alloc y2.out.size _⟩
set_option maxHeartbeats 4000000 in
theorem rtake_go {w : World} {rb : Nat} {C : V} {p : Option Addr} {n c : Nat} {T : List Opr} (h : RP w rb C (.slice p n c) T) (hn : T.length = n) (hO : RO C T) (a b : Int) (v : V) (hv : v.ok = true) (hsp : spn a b = true) (h4 : n < 4096) :
    Calls Try.prog 23 #[.pointer (some ⟨rb, 0, none⟩), .int .i64 a, .int .i64 b, .agg #[.int .i64 v.a, .int .i64 v.b, .int .i64 v.c, .int .i64 v.d]] w fun e w' => (¬ Fits (fT C T) a b v ∧ e = .returned (.int .i64 7) ∧ Below w.heap.size w w') ∨ (Fits (fT C T) a b v ∧ e = .returned (.int .i64 0) ∧ ∃ tv', RT w w' rb C (.slice p n c) tv' (T ++ [⟨0, a, b, v⟩])) := by
  have H : Hid (∀ w, Calls Try.prog 10 #[.agg #[.int .i64 v.a, .int .i64 v.b, .int .i64 v.c, .int .i64 v.d]] w fun e w' => e = .returned (.bool true) ∧ Below w.heap.size w w') := fun w => by have := rformed_V v w; rwa [hv] at this
  have H20 : Hid (∀ W, Below w.heap.size w W → Calls Try.prog 20 #[.pointer (some ⟨rb, 0, none⟩), .int .i64 a, .int .i64 b] W fun e w' => (∃ m : V, e = .returned (.tuple #[.agg #[.int .i64 m.a, .int .i64 m.b, .int .i64 m.c, .int .i64 m.d], .int .i64 0]) ∧ Hid (Lst (fT C T) a b m)) ∧ Below W.heap.size W w') := fun W b9 => rleast_any (h.below b9) hO a b hsp
  have HM : Hid (RP w rb C (.slice p n c) T) := h
  have HN : Hid (T.length = n) := hn
  have hlt := h.lt rb (.inl rfl)
  clear hv hsp h hn hO
  go_enter Try.func23, Try.ntmps23
  go_wp2_with (go_at_call 10; refine (H.out _).mono ?_)
  first | rintro e w1 rfl b1 | rintro e w1 ⟨rfl, b1⟩
  have z1 : Bx w1 w.heap.size v := at_below b1 (by simp) new0
  have y1 : Hid (Below w.heap.size w w1) := Below.trans (by go_grown) (b1.mono (by simp))
  clear H b1
  go_upto_region 4 with (go_at_call 20; refine (H20.out _ y1.out).mono ?_; rintro e w2 ⟨⟨m, rfl, hm⟩, b2⟩)
  have z2 : Bx w2 w.heap.size v := at_below b2 (Nat.le_refl _) z1
  have y2 := y1.out.trans (b2.mono y1.out.size)
  obtain ⟨W3, hW3⟩ : ∃ W3, W3 = w2.alloc (vB m) := ⟨_, rfl⟩
  have y3 : Hid (Below w.heap.size w W3) := by show Below w.heap.size w W3; rw [hW3]; exact y2.alloc y2.size _
  have z3 : Bx W3 w.heap.size v := by rw [hW3]; exact at_alloc z2
  have z4 : Bx W3 w2.heap.size m := by rw [hW3]; exact new0
  rw [← hW3]
  clear hW3 z1 z2 y1 y2 b2 H20
  generalize w2.heap.size = lb at *
  obtain ⟨q0, q1, q2, q3, -⟩ := cells4 z3
  obtain ⟨r0, r1, r2, r3, -⟩ := cells4 z4
  have c4 := (HM.out.below y3.out).cells.2.2.2.2
  have hn' : decide ((4096 : Int) ≤ (n : Int)) = false := decide_eq_false (by omega)
  obtain ⟨bt, hbt⟩ : ∃ bt, bt = decide (v.le m) := ⟨_, rfl⟩
  have HT : Hid (bt = decide (v.le m)) := hbt
  have H16 : Hid (Calls Try.prog 16 #[.agg #[.int .i64 v.a, .int .i64 v.b, .int .i64 v.c, .int .i64 v.d], .agg #[.int .i64 m.a, .int .i64 m.b, .int .i64 m.c, .int .i64 m.d]] W3 fun e w4 => e = .returned (.bool bt) ∧ Hid (Below w.heap.size w w4 ∧ Bx w4 w.heap.size v)) := by
    refine (rfits_V v m W3).mono ?_
    rintro e w4 ⟨rfl, b4⟩
    exact ⟨by rw [hbt], y3.out.trans (b4.mono y3.out.size), at_below b4 (Nat.le_refl _) z3⟩
  clear hbt z3 z4
  go_wp2_with (go_at_call 16; refine H16.out.mono ?_)
  first | rintro e w4 rfl h4' | rintro e w4 ⟨rfl, h4'⟩
  clear H16 q0 q1 q2 q3 r0 r1 r2 r3 c4
  cases bt
  · have hC : Hid (¬ Fits (fT C T) a b v) := fun q => (of_decide_eq_false HT.out.symm) (hm.out.le_iff.2 q)
    go_wp2_with fail
    go_ret
    exact .inl ⟨hC.out, rfl, h4'.out.1⟩
  · have hC : Hid (Fits (fT C T) a b v) := hm.out.le_iff.1 (of_decide_eq_true HT.out.symm)
    have hM := HM.out.below h4'.out.1
    have c4 := hM.cells.2.2.2.2
    have hlt4 : rb < w4.heap.size := hM.lt rb (.inl rfl)
    obtain ⟨q0, q1, q2, q3, -, -, -, -, qs, qn⟩ := cells4 h4'.out.2
    clear hM
    have HB1 : Hid (Below w.heap.size w (w4.alloc (.cells #[.int .i64 a, .int .i64 b, .int .i64 v.a, .int .i64 v.b, .int .i64 v.c, .int .i64 v.d] 70)).drew) := (h4'.out.1.alloc h4'.out.1.size _).drew
    have HB2 : Hid (Below w.heap.size w (w4.drew.alloc (.cells #[.int .i64 a, .int .i64 b, .int .i64 v.a, .int .i64 v.b, .int .i64 v.c, .int .i64 v.d] 70))) := h4'.out.1.drew.alloc h4'.out.1.size _
    have HG1 : Hid ((w4.alloc (.cells #[.int .i64 a, .int .i64 b, .int .i64 v.a, .int .i64 v.b, .int .i64 v.c, .int .i64 v.d] 70)).drew.heap[w4.heap.size]? = some (.cells (tkv ⟨0, a, b, v⟩).toArray 70 (0, 0))) := new0 (w := w4)
    have HG2 : Hid ((w4.drew.alloc (.cells #[.int .i64 a, .int .i64 b, .int .i64 v.a, .int .i64 v.b, .int .i64 v.c, .int .i64 v.d] 70)).heap[w4.heap.size]? = some (.cells (tkv ⟨0, a, b, v⟩).toArray 70 (0, 0))) := new0 (w := w4.drew)
    go_wp2_with fail
    go_region_law (refine step_take rfl (.tmp 38) (.tmp 43) rfl w rb C p n c T ⟨0, a, b, v⟩ (by simp [Act.eval]) HN.out HM.out (by first | exact HB1.out | exact HB2.out) (by omega) w4.heap.size 1 (by simp [Act.eval]) (by first | exact HG1.out | exact HG2.out) ?_; intro g3 c3 w5 hc5 h5; obtain ⟨d4, df4⟩ := hc5)
    all_goals go_wp2_with fail
    all_goals go_ret
    all_goals exact .inr ⟨hC.out, rfl, _, h5.out⟩
end Go.Proofs.Ytkfpbpkadkhhnaa
