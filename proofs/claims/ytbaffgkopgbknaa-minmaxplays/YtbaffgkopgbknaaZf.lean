/-
  The reference's End: the walk.
-/
import Derived.Test.YtbaffgkopgbknaaZe
namespace Go.Proofs.Ytbaffgkopgbknaa
open Go.RowKit Go.Maps Go.Sort

theorem grown9 {W : World} {f : FuncId} {args : Array Value} {v : Value} (H : Hid (∀ w, Calls Try.prog f args w fun e w' => e = .returned v ∧ Below w.heap.size w w')) :
    Hid (∀ d os, Calls Try.prog f args (grow (redrawn W d) os) fun e w'' => e = .returned v ∧ ∃ p : Regrown, w'' = grow (redrawn W p.d) p.os) := fun _ _ => Calls.regrown_of (H.out _)
/-- End's answer -/
def Ea (l : List RE) (s : Nat) (e : Ending) : Prop := (e = .returned (.tuple #[.int .i64 0, ktup kz, .int .i64 3]) ∧ ∀ x, rcont l x = none) ∨ ∃ (j : Nat) (x : RE), e = .returned (.tuple #[.int .i64 j, ktup x.k, .int .i64 0]) ∧ l[j]? = some x ∧ x.on = true ∧ (rcont l).ext s j x.k
theorem Ea.none {l : List RE} {s : Nat} (h : Rx l s l.length (-1)) : Ea l s (.returned (.tuple #[.int .i64 0, ktup kz, .int .i64 3])) := by
  rcases h.done with ⟨_, h⟩ | ⟨j, e, h, _⟩
  · exact .inl ⟨rfl, h⟩
  · omega
theorem Ea.some {l : List RE} {s j : Nat} {x : RE} (h : Rx l s l.length j) (hx : l[j]? = some x) : Ea l s (.returned (.tuple #[.int .i64 j, ktup x.k, .int .i64 0])) := by
  rcases h.done with ⟨h, _⟩ | ⟨j', e, h, h1, h2, h3⟩
  · omega
  · have : j = j' := by omega
    subst this
    rw [hx] at h1
    cases h1
    exact .inr ⟨j, x, rfl, hx, h2, h3⟩
section
variable {w w' : World} {rb : Nat} {v : Value} {l : List RE}
set_option maxHeartbeats 4000000 in
set_option maxRecDepth 100000 in
theorem rend_lo (h : Hid (Rf w rb v l)) (hs : l.length ≤ 1048576) (hk : Hid (∀ e ∈ l, e.k.ok)) : Calls Try.prog 28 #[.pointer (some ⟨rb, 0, none⟩), .bool false] w fun e w' => Ea l 0 e ∧ Below w.heap.size w w' := by
  obtain ⟨a, c, rfl⟩ := h.out.shape
  have HS : Hid (l.length ≤ 1048576) := hs
  have hs' : (l.length : Int) ≤ 1048576 := by omega
  clear hs
  go_enter Try.func28, Try.ntmps28
  go_upto_region 1 with fail
  have G0 : Hid ((w.alloc (.cells #[.int .i64 0, .int .i64 0, .int .i64 0] 45)).heap[w.heap.size]? = some (.cells #[.int .i64 0, .int .i64 0, .int .i64 0] 45 (0, 0))) := new0
  have B0 : Hid (Below w.heap.size w (w.alloc (.cells #[.int .i64 0, .int .i64 0, .int .i64 0] 45))) := by unfold Hid; go_grown
  generalize w.alloc (.cells #[.int .i64 0, .int .i64 0, .int .i64 0] 45) = W at *
  have R0 : Hid (Rf W rb (.slice a l.length c) l) := h.out.keep B0.out
  have hrb := R0.out.blk
  clear h
  go_wp2_with fail
  go_loopw [7, 8] (fun t7 t8 wr => ∃ (b : Int) (i : Nat), t7 = .int .i64 b ∧ t8 = .int .i64 i ∧ i ≤ l.length ∧ Hid (Rx l 0 i b ∧ Below W.heap.size W wr)) (fun _ t8 _ => l.length - (intOf t8).toNat)
  case atStart => exact ⟨-1, 0, rfl, rfl, Nat.zero_le _, Rx.start, Below.refl _ _⟩
  case round =>
    obtain ⟨b, i, rfl, rfl, hi, HX⟩ := hrel
    have R1 : Hid (Rf wr rb (.slice a l.length c) l) := R0.out.keep HX.out.2
    have e1 := c1 R1.out.b
    by_cases hil : i < l.length
    · have hil' : (i : Int) < (l.length : Int) := by omega
      obtain ⟨g, c', hg'⟩ := R1.out.row (by intro e; rw [e] at hil; simp at hil)
      have ea : a = some ⟨g, 0, none⟩ ∧ c = c' := by simpa using hg'
      obtain ⟨rfl, rfl⟩ := ea
      clear hg'
      obtain ⟨x, hx⟩ : ∃ x, l[i]? = some x := ⟨_, List.getElem?_eq_getElem hil⟩
      have p0 := R1.out.cell hx (j := 0) rfl (by decide)
      have p1 := R1.out.cell hx (j := 1) rfl (by decide)
      have p2 := R1.out.cell hx (j := 2) rfl (by decide)
      have p3 := R1.out.cell hx (j := 3) rfl (by decide)
      rw [Nat.add_zero] at p0
      have HXX : Hid (l[i]? = some x ∧ x.k.ok) := ⟨hx, hk.out x (List.mem_of_getElem? hx)⟩
      clear hx
      cases ho : x.on with
      | false =>
        rw [ho] at p3
        have HN : Hid (Rx l 0 (i + 1) b ∧ Below W.heap.size W wr) := ⟨HX.out.1.off HXX.out.1 ho, HX.out.2⟩
        clear HX p0 p1 p2 ho
        go_wp2_with fail
        exact ⟨⟨b, i + 1, rfl, by go_num, by omega, HN.out⟩, by simp [intOf]; omega⟩
      | true =>
        rw [ho] at p3
        have HON : Hid (x.on = true) := ho
        clear ho
        go_upto_region 6 with fail
        clear p3
        have m0 := cell_regrown p0
        have m1 := cell_regrown p1
        have m2 := cell_regrown p2
        have m6 := cell_regrown e1
        by_cases hb : b = -1
        · subst hb
          have HN : Hid (∀ d os, Rx l 0 (i + 1) i ∧ Below W.heap.size W (grow (redrawn wr d) os)) := fun d os => ⟨HX.out.1.first HXX.out.1 HON.out, HX.out.2.trans ((below_regrown wr d os).mono HX.out.2.size)⟩
          clear HX
          refine wp_region_quiet_below (by kernel_rfl) (by kernel_rfl) ?_
          repeat (first | go_big_quiet_step (fail) | quiet_step (fail))
          refine wpQuiet_nil ?_
          intro _ hw'
          obtain ⟨⟨dq, osq⟩, hw''⟩ := hw'
          subst hw''
          go_wp2_with fail
          exact ⟨⟨i, i + 1, rfl, by go_num, by omega, HN.out _ _⟩, by simp [intOf]; omega⟩
        · obtain ⟨j, y, hbj, hji, hy, hyo⟩ : ∃ (j : Nat) (y : RE), b = (j : Int) ∧ j < i ∧ l[j]? = some y ∧ y.on = true := by
            rcases HX.out.1 with ⟨q, _⟩ | ⟨j, e, q1, q2, q3, q4, _⟩
            · exact absurd q hb
            · exact ⟨j, e, q1, q2, q3, q4⟩
          subst hbj
          have r0 := R1.out.cell hy (j := 0) rfl (by decide)
          have r1 := R1.out.cell hy (j := 1) rfl (by decide)
          have r2 := R1.out.cell hy (j := 2) rfl (by decide)
          rw [Nat.add_zero] at r0
          have m3 := cell_regrown r0
          have m4 := cell_regrown r1
          have m5 := cell_regrown r2
          have H15 : Hid (∀ w, Calls Try.prog 15 #[.agg #[.int .i64 x.k.a, .int .i64 x.k.b, .int .i64 x.k.c], .agg #[.int .i64 y.k.a, .int .i64 y.k.b, .int .i64 y.k.c]] w fun e w' => e = .returned (.int .i64 (rc x.k y.k)) ∧ Below w.heap.size w w') := fun w => rcompare_any _ _ w HXX.out.2 (hk.out y (List.mem_of_getElem? hy))
          have HC : Hid ((rc x.k y.k < 0 → Rx l 0 (i + 1) i) ∧ (¬ rc x.k y.k < 0 → Rx l 0 (i + 1) j)) := (HX.out.1.cmp (by decide) HXX.out.1 HON.out hy (by have := HS.out; omega)).1 rfl
          have HBB : Hid (∀ d os, Below W.heap.size W (grow (redrawn wr d) os)) := fun d os => HX.out.2.trans ((below_regrown wr d os).mono HX.out.2.size)
          have hj0 : decide ((j : Int) < 0) = false := decide_eq_false (by omega)
          have hj1 : (j : Int) < (l.length : Int) := by omega
          have hj2 : 0 ≤ (j : Int) := by omega
          have HJL : Hid (j < i) := hji
          clear HX hy hyo hb hji r0 r1 r2
          generalize rc x.k y.k = z at *
          have G15 := grown9 (W := wr) H15
          by_cases hz : z < 0
          · have HN := HC.out.1 hz
            have HZ1 : Hid (Rx l 0 (i + 1) i) := HN
            have hz1 : decide (z < 0) = true := decide_eq_true hz
            have hz2 : decide (0 ≤ z) = false := decide_eq_false (by omega)
            clear HN
            refine wp_region_quiet_below (by kernel_rfl) (by kernel_rfl) ?_
            repeat (first | go_big_quiet_step ((go_at_call 15; exact G15.out _ _)) | quiet_step ((go_at_call 15; exact G15.out _ _)))
            refine wpQuiet_nil ?_
            intro _ hw'
            obtain ⟨⟨dq, osq⟩, hw''⟩ := hw'
            subst hw''
            go_wp2_with fail
            exact ⟨⟨i, i + 1, rfl, by go_num, by omega, HZ1.out, HBB.out _ _⟩, by simp [intOf]; omega⟩
          · have HN := HC.out.2 hz
            have HZ1 : Hid (Rx l 0 (i + 1) j) := HN
            have hz1 : decide (z < 0) = false := decide_eq_false hz
            have hz2 : 0 ≤ z := by omega
            clear HN
            refine wp_region_quiet_below (by kernel_rfl) (by kernel_rfl) ?_
            repeat (first | go_big_quiet_step ((go_at_call 15; exact G15.out _ _)) | quiet_step ((go_at_call 15; exact G15.out _ _)))
            refine wpQuiet_nil ?_
            intro _ hw'
            obtain ⟨⟨dq, osq⟩, hw''⟩ := hw'
            subst hw''
            go_wp2_with fail
            exact ⟨⟨j, i + 1, rfl, by go_num, by omega, HZ1.out, HBB.out _ _⟩, by simp [intOf]; omega⟩
    · have hil' : ¬ (i : Int) < (l.length : Int) := by omega
      have hii : i = l.length := by omega
      have HF : Hid (Rx l 0 l.length b) := by have := HX.out.1; rw [hii] at this; exact this
      have HB : Hid (Below w.heap.size w wr) := B0.out.trans (HX.out.2.mono B0.out.size)
      have G1 : Hid (wr.heap[w.heap.size]? = some (.cells #[.int .i64 0, .int .i64 0, .int .i64 0] 45 (0, 0))) := at_below HX.out.2 (Nat.le_refl _) G0.out
      obtain ⟨q0, q1, q2⟩ := c3 G1.out
      obtain ⟨f0, f1, f2⟩ := f3 G1.out
      clear HX hii
      by_cases hb : b = -1
      · subst hb
        go_wp2_with fail
        refine bodyPost_ret (v := .tuple #[.int .i64 0, ktup kz, .int .i64 3]) (by rw [results_tct rfl]; go_simp; rfl) rfl ⟨Ea.none HF.out, ?_⟩
        go_grown
        exact HB.out
      · obtain ⟨j, y, hbj, hji, hy⟩ : ∃ (j : Nat) (y : RE), b = (j : Int) ∧ j < l.length ∧ l[j]? = some y := by
          rcases HF.out with ⟨q, _⟩ | ⟨j, e, q1, q2, q3, q4, _⟩
          · exact absurd q hb
          · exact ⟨j, e, q1, q2, q3⟩
        subst hbj
        have hne : l ≠ [] := by rintro q; rw [q] at hji; simp at hji
        obtain ⟨g, c', hg'⟩ := R1.out.row hne
        have ea : a = some ⟨g, 0, none⟩ ∧ c = c' := by simpa using hg'
        obtain ⟨rfl, rfl⟩ := ea
        clear hg' hne
        have r0 := R1.out.cell hy (j := 0) rfl (by decide)
        have r1 := R1.out.cell hy (j := 1) rfl (by decide)
        have r2 := R1.out.cell hy (j := 2) rfl (by decide)
        rw [Nat.add_zero] at r0
        have HEA : Hid (Ea l 0 (.returned (.tuple #[.int .i64 j, ktup y.k, .int .i64 0]))) := Ea.some HF.out hy
        have hj0 : ¬ (j : Int) < 0 := by omega
        have hj1 : (j : Int) < (l.length : Int) := by omega
        have hj2 : 0 ≤ (j : Int) := by omega
        clear HF hy hb hji
        go_upto_region 10 with fail
        go_region
        all_goals go_wp2_with fail
        all_goals refine bodyPost_ret (v := .tuple #[.int .i64 j, ktup y.k, .int .i64 0]) (by rw [results_tct rfl]; go_simp; rfl) rfl ⟨HEA.out, ?_⟩
        all_goals go_grown
        all_goals exact HB.out
set_option maxHeartbeats 4000000 in
set_option maxRecDepth 100000 in
theorem rend_hi (h : Hid (Rf w rb v l)) (hs : l.length ≤ 1048576) (hk : Hid (∀ e ∈ l, e.k.ok)) : Calls Try.prog 28 #[.pointer (some ⟨rb, 0, none⟩), .bool true] w fun e w' => Ea l 1 e ∧ Below w.heap.size w w' := by
  obtain ⟨a, c, rfl⟩ := h.out.shape
  have HS : Hid (l.length ≤ 1048576) := hs
  have hs' : (l.length : Int) ≤ 1048576 := by omega
  clear hs
  go_enter Try.func28, Try.ntmps28
  go_upto_region 1 with fail
  have G0 : Hid ((w.alloc (.cells #[.int .i64 0, .int .i64 0, .int .i64 0] 45)).heap[w.heap.size]? = some (.cells #[.int .i64 0, .int .i64 0, .int .i64 0] 45 (0, 0))) := new0
  have B0 : Hid (Below w.heap.size w (w.alloc (.cells #[.int .i64 0, .int .i64 0, .int .i64 0] 45))) := by unfold Hid; go_grown
  generalize w.alloc (.cells #[.int .i64 0, .int .i64 0, .int .i64 0] 45) = W at *
  have R0 : Hid (Rf W rb (.slice a l.length c) l) := h.out.keep B0.out
  have hrb := R0.out.blk
  clear h
  go_wp2_with fail
  go_loopw [7, 8] (fun t7 t8 wr => ∃ (b : Int) (i : Nat), t7 = .int .i64 b ∧ t8 = .int .i64 i ∧ i ≤ l.length ∧ Hid (Rx l 1 i b ∧ Below W.heap.size W wr)) (fun _ t8 _ => l.length - (intOf t8).toNat)
  case atStart => exact ⟨-1, 0, rfl, rfl, Nat.zero_le _, Rx.start, Below.refl _ _⟩
  case round =>
    obtain ⟨b, i, rfl, rfl, hi, HX⟩ := hrel
    have R1 : Hid (Rf wr rb (.slice a l.length c) l) := R0.out.keep HX.out.2
    have e1 := c1 R1.out.b
    by_cases hil : i < l.length
    · have hil' : (i : Int) < (l.length : Int) := by omega
      obtain ⟨g, c', hg'⟩ := R1.out.row (by intro e; rw [e] at hil; simp at hil)
      have ea : a = some ⟨g, 0, none⟩ ∧ c = c' := by simpa using hg'
      obtain ⟨rfl, rfl⟩ := ea
      clear hg'
      obtain ⟨x, hx⟩ : ∃ x, l[i]? = some x := ⟨_, List.getElem?_eq_getElem hil⟩
      have p0 := R1.out.cell hx (j := 0) rfl (by decide)
      have p1 := R1.out.cell hx (j := 1) rfl (by decide)
      have p2 := R1.out.cell hx (j := 2) rfl (by decide)
      have p3 := R1.out.cell hx (j := 3) rfl (by decide)
      rw [Nat.add_zero] at p0
      have HXX : Hid (l[i]? = some x ∧ x.k.ok) := ⟨hx, hk.out x (List.mem_of_getElem? hx)⟩
      clear hx
      cases ho : x.on with
      | false =>
        rw [ho] at p3
        have HN : Hid (Rx l 1 (i + 1) b ∧ Below W.heap.size W wr) := ⟨HX.out.1.off HXX.out.1 ho, HX.out.2⟩
        clear HX p0 p1 p2 ho
        go_wp2_with fail
        exact ⟨⟨b, i + 1, rfl, by go_num, by omega, HN.out⟩, by simp [intOf]; omega⟩
      | true =>
        rw [ho] at p3
        have HON : Hid (x.on = true) := ho
        clear ho
        go_upto_region 6 with fail
        clear p3
        have m0 := cell_regrown p0
        have m1 := cell_regrown p1
        have m2 := cell_regrown p2
        have m6 := cell_regrown e1
        by_cases hb : b = -1
        · subst hb
          have HN : Hid (∀ d os, Rx l 1 (i + 1) i ∧ Below W.heap.size W (grow (redrawn wr d) os)) := fun d os => ⟨HX.out.1.first HXX.out.1 HON.out, HX.out.2.trans ((below_regrown wr d os).mono HX.out.2.size)⟩
          clear HX
          refine wp_region_quiet_below (by kernel_rfl) (by kernel_rfl) ?_
          repeat (first | go_big_quiet_step (fail) | quiet_step (fail))
          refine wpQuiet_nil ?_
          intro _ hw'
          obtain ⟨⟨dq, osq⟩, hw''⟩ := hw'
          subst hw''
          go_wp2_with fail
          exact ⟨⟨i, i + 1, rfl, by go_num, by omega, HN.out _ _⟩, by simp [intOf]; omega⟩
        · obtain ⟨j, y, hbj, hji, hy, hyo⟩ : ∃ (j : Nat) (y : RE), b = (j : Int) ∧ j < i ∧ l[j]? = some y ∧ y.on = true := by
            rcases HX.out.1 with ⟨q, _⟩ | ⟨j, e, q1, q2, q3, q4, _⟩
            · exact absurd q hb
            · exact ⟨j, e, q1, q2, q3, q4⟩
          subst hbj
          have r0 := R1.out.cell hy (j := 0) rfl (by decide)
          have r1 := R1.out.cell hy (j := 1) rfl (by decide)
          have r2 := R1.out.cell hy (j := 2) rfl (by decide)
          rw [Nat.add_zero] at r0
          have m3 := cell_regrown r0
          have m4 := cell_regrown r1
          have m5 := cell_regrown r2
          have H15 : Hid (∀ w, Calls Try.prog 15 #[.agg #[.int .i64 x.k.a, .int .i64 x.k.b, .int .i64 x.k.c], .agg #[.int .i64 y.k.a, .int .i64 y.k.b, .int .i64 y.k.c]] w fun e w' => e = .returned (.int .i64 (rc x.k y.k)) ∧ Below w.heap.size w w') := fun w => rcompare_any _ _ w HXX.out.2 (hk.out y (List.mem_of_getElem? hy))
          have HC : Hid ((rc x.k y.k < 0 → Rx l 1 (i + 1) j) ∧ (¬ rc x.k y.k < 0 → Rx l 1 (i + 1) i)) := (HX.out.1.cmp (by decide) HXX.out.1 HON.out hy (by have := HS.out; omega)).2 rfl
          have HBB : Hid (∀ d os, Below W.heap.size W (grow (redrawn wr d) os)) := fun d os => HX.out.2.trans ((below_regrown wr d os).mono HX.out.2.size)
          have hj0 : decide ((j : Int) < 0) = false := decide_eq_false (by omega)
          have hj1 : (j : Int) < (l.length : Int) := by omega
          have hj2 : 0 ≤ (j : Int) := by omega
          have HJL : Hid (j < i) := hji
          clear HX hy hyo hb hji r0 r1 r2
          generalize rc x.k y.k = z at *
          have G15 := grown9 (W := wr) H15
          by_cases hz : z < 0
          · have HN := HC.out.1 hz
            have HZ1 : Hid (Rx l 1 (i + 1) j) := HN
            have hz1 : decide (z < 0) = true := decide_eq_true hz
            have hz2 : decide (0 ≤ z) = false := decide_eq_false (by omega)
            clear HN
            refine wp_region_quiet_below (by kernel_rfl) (by kernel_rfl) ?_
            repeat (first | go_big_quiet_step ((go_at_call 15; exact G15.out _ _)) | quiet_step ((go_at_call 15; exact G15.out _ _)))
            refine wpQuiet_nil ?_
            intro _ hw'
            obtain ⟨⟨dq, osq⟩, hw''⟩ := hw'
            subst hw''
            go_wp2_with fail
            exact ⟨⟨j, i + 1, rfl, by go_num, by omega, HZ1.out, HBB.out _ _⟩, by simp [intOf]; omega⟩
          · have HN := HC.out.2 hz
            have HZ1 : Hid (Rx l 1 (i + 1) i) := HN
            have hz1 : decide (z < 0) = false := decide_eq_false hz
            have hz2 : 0 ≤ z := by omega
            clear HN
            refine wp_region_quiet_below (by kernel_rfl) (by kernel_rfl) ?_
            repeat (first | go_big_quiet_step ((go_at_call 15; exact G15.out _ _)) | quiet_step ((go_at_call 15; exact G15.out _ _)))
            refine wpQuiet_nil ?_
            intro _ hw'
            obtain ⟨⟨dq, osq⟩, hw''⟩ := hw'
            subst hw''
            go_wp2_with fail
            exact ⟨⟨i, i + 1, rfl, by go_num, by omega, HZ1.out, HBB.out _ _⟩, by simp [intOf]; omega⟩
    · have hil' : ¬ (i : Int) < (l.length : Int) := by omega
      have hii : i = l.length := by omega
      have HF : Hid (Rx l 1 l.length b) := by have := HX.out.1; rw [hii] at this; exact this
      have HB : Hid (Below w.heap.size w wr) := B0.out.trans (HX.out.2.mono B0.out.size)
      have G1 : Hid (wr.heap[w.heap.size]? = some (.cells #[.int .i64 0, .int .i64 0, .int .i64 0] 45 (0, 0))) := at_below HX.out.2 (Nat.le_refl _) G0.out
      obtain ⟨q0, q1, q2⟩ := c3 G1.out
      obtain ⟨f0, f1, f2⟩ := f3 G1.out
      clear HX hii
      by_cases hb : b = -1
      · subst hb
        go_wp2_with fail
        refine bodyPost_ret (v := .tuple #[.int .i64 0, ktup kz, .int .i64 3]) (by rw [results_tct rfl]; go_simp; rfl) rfl ⟨Ea.none HF.out, ?_⟩
        go_grown
        exact HB.out
      · obtain ⟨j, y, hbj, hji, hy⟩ : ∃ (j : Nat) (y : RE), b = (j : Int) ∧ j < l.length ∧ l[j]? = some y := by
          rcases HF.out with ⟨q, _⟩ | ⟨j, e, q1, q2, q3, q4, _⟩
          · exact absurd q hb
          · exact ⟨j, e, q1, q2, q3⟩
        subst hbj
        have hne : l ≠ [] := by rintro q; rw [q] at hji; simp at hji
        obtain ⟨g, c', hg'⟩ := R1.out.row hne
        have ea : a = some ⟨g, 0, none⟩ ∧ c = c' := by simpa using hg'
        obtain ⟨rfl, rfl⟩ := ea
        clear hg' hne
        have r0 := R1.out.cell hy (j := 0) rfl (by decide)
        have r1 := R1.out.cell hy (j := 1) rfl (by decide)
        have r2 := R1.out.cell hy (j := 2) rfl (by decide)
        rw [Nat.add_zero] at r0
        have HEA : Hid (Ea l 1 (.returned (.tuple #[.int .i64 j, ktup y.k, .int .i64 0]))) := Ea.some HF.out hy
        have hj0 : ¬ (j : Int) < 0 := by omega
        have hj1 : (j : Int) < (l.length : Int) := by omega
        have hj2 : 0 ≤ (j : Int) := by omega
        clear HF hy hb hji
        go_upto_region 10 with fail
        go_region
        all_goals go_wp2_with fail
        all_goals refine bodyPost_ret (v := .tuple #[.int .i64 j, ktup y.k, .int .i64 0]) (by rw [results_tct rfl]; go_simp; rfl) rfl ⟨HEA.out, ?_⟩
        all_goals go_grown
        all_goals exact HB.out
end
end Go.Proofs.Ytbaffgkopgbknaa
