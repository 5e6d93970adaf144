/-
  The reference's Min.
-/
import Derived.Test.YtmcmldlnmmbbgaaZf
import Derived.Lib.QuietBelow
namespace Go.Proofs.Ytmcmldlnmmbbgaa
open Go.RowKit Go.Maps Go.Sort

/-- the keys of those that are there are right -/
def Rk (l : List RE) : Prop := ∀ e ∈ l, e.on = true → e.k.ok
/-- the first so many entries' least -/
def Rx (l : List RE) (i : Nat) (b : Int) : Prop := (b = -1 ∧ ∀ (j : Nat) (e : RE), j < i → l[j]? = some e → e.on = false) ∨
  ∃ (j : Nat) (e : RE), b = (j : Int) ∧ j < i ∧ l[j]? = some e ∧ e.on = true ∧ ∀ (j' : Nat) (e' : RE), j' < i → l[j']? = some e' → e'.on = true → j' = j ∨ el e.k j e'.k j'
section
variable {l : List RE} {i : Nat} {b : Int} {x y : RE}
theorem Rx.start : Rx l 0 (-1) := .inl ⟨rfl, fun j e h => by omega⟩
theorem Rx.off (h : Rx l i b) (hx : l[i]? = some x) (ho : x.on = false) : Rx l (i + 1) b := by
  rcases h with ⟨h1, h2⟩ | ⟨j, e, h1, h2, h3, h4, h5⟩
  · refine .inl ⟨h1, fun j e hj he => ?_⟩
    by_cases q : j = i
    · subst q; rw [hx] at he; cases he; exact ho
    · exact h2 j e (by omega) he
  · refine .inr ⟨j, e, h1, by omega, h3, h4, fun j' e' hj he hon => ?_⟩
    by_cases q : j' = i
    · subst q; rw [hx] at he; cases he; rw [ho] at hon; cases hon
    · exact h5 j' e' (by omega) he hon
theorem Rx.first (h : Rx l i (-1)) (hx : l[i]? = some x) (ho : x.on = true) : Rx l (i + 1) i := by
  refine .inr ⟨i, x, rfl, by omega, hx, ho, fun j' e' hj he hon => ?_⟩
  by_cases q : j' = i
  · exact .inl q
  · rcases h with ⟨_, h2⟩ | ⟨j, e, h1, _⟩
    · rw [h2 j' e' (by omega) he] at hon; cases hon
    · omega
theorem Rx.take {j : Nat} (h : Rx l i j) (hk : Rk l) (hx : l[i]? = some x) (ho : x.on = true) (hy : l[j]? = some y) (hlt : kl x.k y.k) : Rx l (i + 1) i := by
  refine .inr ⟨i, x, rfl, by omega, hx, ho, fun j' e' hj he hon => ?_⟩
  by_cases q : j' = i
  · exact .inl q
  · rcases h with ⟨h1, _⟩ | ⟨j2, e, h1, h2, h3, h4, h5⟩
    · omega
    · have e1 : j2 = j := by omega
      subst e1
      rw [hy] at h3
      cases h3
      rcases h5 j' e' (by omega) he hon with r | r
      · subst r
        rw [hy] at he
        cases he
        exact .inr (.inl hlt)
      · exact .inr (el.trans (hk x (List.mem_of_getElem? hx) ho).z (hk y (List.mem_of_getElem? hy) h4).z (hk e' (List.mem_of_getElem? he) hon).z (.inl hlt) r)
theorem Rx.keep {j : Nat} (h : Rx l i j) (hx : l[i]? = some x) (hy : l[j]? = some y) (hle : ¬ kl x.k y.k) : Rx l (i + 1) j := by
  rcases h with ⟨h1, _⟩ | ⟨j2, e, h1, h2, h3, h4, h5⟩
  · omega
  · have e1 : j2 = j := by omega
    subst e1
    rw [hy] at h3
    cases h3
    refine .inr ⟨j2, y, rfl, by omega, hy, h4, fun j' e' hj he hon => ?_⟩
    by_cases q : j' = i
    · subst q
      rw [hx] at he
      cases he
      right
      rcases kl_tri x.k y.k with r | r | r
      · exact absurd r hle
      · exact .inr ⟨r.symm, h2⟩
      · exact .inl r
    · exact h5 j' e' (by omega) he hon
theorem Rx.cmp {j : Nat} (h : Rx l i j) (hk : Rk l) (hx : l[i]? = some x) (ho : x.on = true) (hy : l[j]? = some y) (hyo : y.on = true) : (rc x.k y.k < 0 → Rx l (i + 1) i) ∧ (¬ rc x.k y.k < 0 → Rx l (i + 1) j) := by
  rw [rc_kc (hk x (List.mem_of_getElem? hx) ho).z (hk y (List.mem_of_getElem? hy) hyo).z]
  exact ⟨fun q => h.take hk hx ho hy (kc_lt.1 q), fun q => h.keep hx hy fun r => q (kc_lt.2 r)⟩
theorem Rx.done {l : List RE} {b : Int} (h : Rx l l.length b) : (b = -1 ∧ ∀ x, rcont l x = none) ∨ ∃ (j : Nat) (e : RE), b = (j : Int) ∧ l[j]? = some e ∧ e.on = true ∧ (rcont l).min j e.k := by
  have key : ∀ (y : Int) k', rcont l y = some k' → ∃ (j : Nat) (e : RE), y = (j : Int) ∧ j < l.length ∧ l[j]? = some e ∧ e.on = true ∧ e.k = k' := fun y k' q => by
    unfold rcont at q
    split at q
    · cases q
    · rename_i h0
      obtain ⟨i, rfl⟩ : ∃ i : Nat, y = i := ⟨y.toNat, by omega⟩
      rw [show ((i : Int)).toNat = i by omega] at q
      cases hi : l[i]? with
      | none => rw [hi] at q; cases q
      | some e =>
        rw [hi] at q
        cases ho : e.on with
        | false => simp [ho] at q
        | true =>
          simp [ho] at q
          exact ⟨i, e, rfl, (List.getElem?_eq_some_iff.1 hi).1, hi, ho, q⟩
  rcases h with ⟨h1, h2⟩ | ⟨j, e, h1, h2, h3, h4, h5⟩
  · refine .inl ⟨h1, fun x => ?_⟩
    cases q : rcont l x with
    | none => rfl
    | some k =>
      obtain ⟨j, e, _, k1, k2, k3, _⟩ := key x k q
      rw [h2 j e k1 k2] at k3
      cases k3
  · refine .inr ⟨j, e, h1, h3, h4, by rw [rcont_at h3, h4]; rfl, fun y k' q => ?_⟩
    obtain ⟨j', e', k0, k1, k2, k3, k4⟩ := key y k' q
    have : y = j' := by omega
    subst this
    rw [← k4]
    exact h5 y e' k1 k2 k3
end
theorem grown9 {W : World} {f : FuncId} {args : Array Value} {v : Value} (H : Hid (∀ w, Calls Try.prog f args w fun e w' => e = .returned v ∧ Below w.heap.size w w')) :
    Hid (∀ d os, Calls Try.prog f args (grow (redrawn W d) os) fun e w'' => e = .returned v ∧ ∃ p : Regrown, w'' = grow (redrawn W p.d) p.os) := fun _ _ => Calls.regrown_of (H.out _)
/-- End's answer -/
def Ea (l : List RE) (e : Ending) : Prop := (e = .returned (.tuple #[.int .i64 0, ktup 0 0 0, .int .i64 3]) ∧ ∀ x, rcont l x = none) ∨ ∃ (j : Nat) (x : RE), e = .returned (.tuple #[.int .i64 j, ktup x.k.n x.k.d x.k.t, .int .i64 0]) ∧ l[j]? = some x ∧ x.on = true ∧ (rcont l).min j x.k
theorem Ea.none {l : List RE} (h : Rx l l.length (-1)) : Ea l (.returned (.tuple #[.int .i64 0, ktup 0 0 0, .int .i64 3])) := by
  rcases h.done with ⟨_, h⟩ | ⟨j, e, h, _⟩
  · exact .inl ⟨rfl, h⟩
  · omega
theorem Ea.some {l : List RE} {j : Nat} {x : RE} (h : Rx l l.length j) (hx : l[j]? = some x) : Ea l (.returned (.tuple #[.int .i64 j, ktup x.k.n x.k.d x.k.t, .int .i64 0])) := by
  rcases h.done with ⟨h, _⟩ | ⟨j', e, h, h1, h2, h3⟩
  · omega
  · have : j = j' := by omega
    subst this
    rw [hx] at h1
    cases h1
    exact .inr ⟨j, x, rfl, hx, h2, h3⟩
section
variable {w w' : World} {rb : Nat} {v : Value} {l : List RE}
set_option maxHeartbeats 4000000 in
set_option maxRecDepth 100000 in
theorem rmin_any (h : Hid (Rf w rb v l)) (hs : l.length ≤ 1048576) (hk : Hid (Rk l)) : Calls Try.prog 24 #[.pointer (some ⟨rb, 0, none⟩)] w fun e w' => Ea l e ∧ Below w.heap.size w w' := by
  obtain ⟨a, c, rfl⟩ := h.out.shape
  have HS : Hid (l.length ≤ 1048576) := hs
  have hs' : (l.length : Int) ≤ 1048576 := by omega
  clear hs
  go_enter Try.func24, Try.ntmps24
  go_upto_region 1 with fail
  have G0 : Hid ((w.alloc (.cells #[.int .u64 0, .int .u64 0, .int .i64 0] 49)).heap[w.heap.size]? = some (.cells #[.int .u64 0, .int .u64 0, .int .i64 0] 49 (0, 0))) := new0
  have B0 : Hid (Below w.heap.size w (w.alloc (.cells #[.int .u64 0, .int .u64 0, .int .i64 0] 49))) := by unfold Hid; go_grown
  generalize w.alloc (.cells #[.int .u64 0, .int .u64 0, .int .i64 0] 49) = W at *
  have R0 : Hid (Rf W rb (.slice a l.length c) l) := h.out.keep B0.out
  have hrb := R0.out.blk
  clear h
  go_wp2_with fail
  go_loopw [5, 6] (fun t7 t8 wr => ∃ (b : Int) (i : Nat), t7 = .int .i64 b ∧ t8 = .int .i64 i ∧ i ≤ l.length ∧ Hid (Rx l i b ∧ Below W.heap.size W wr)) (fun _ t8 _ => l.length - (intOf t8).toNat)
  case atStart => exact ⟨-1, 0, rfl, rfl, Nat.zero_le _, Rx.start, Below.refl _ _⟩
  case round =>
    obtain ⟨b, i, rfl, rfl, hi, HX⟩ := hrel
    have R1 : Hid (Rf wr rb (.slice a l.length c) l) := R0.out.keep HX.out.2
    have e1 := c1 R1.out.b
    by_cases hil : i < l.length
    · have hil' : (i : Int) < (l.length : Int) := by omega
      obtain ⟨g, c', hg'⟩ := R1.out.row (by intro e; rw [e] at hil; simp at hil)
      have ea : a = some ⟨g, 0, none⟩ ∧ c = c' := by simpa using hg'
      obtain ⟨rfl, rfl⟩ := ea
      clear hg'
      obtain ⟨x, hx⟩ : ∃ x, l[i]? = some x := ⟨_, List.getElem?_eq_getElem hil⟩
      have p0 := R1.out.cell hx (j := 0) rfl (by decide)
      have p1 := R1.out.cell hx (j := 1) rfl (by decide)
      have p2 := R1.out.cell hx (j := 2) rfl (by decide)
      have p3 := R1.out.cell hx (j := 3) rfl (by decide)
      rw [Nat.add_zero] at p0
      have HXX : Hid (l[i]? = some x) := hx
      clear hx
      cases ho : x.on with
      | false =>
        rw [ho] at p3
        have HN : Hid (Rx l (i + 1) b ∧ Below W.heap.size W wr) := ⟨HX.out.1.off HXX.out ho, HX.out.2⟩
        have HB5 : Hid (∀ n, Below W.heap.size W (wr.drewN n)) := fun n => below_drewN HX.out.2 n
        clear HX p0 p1 p2 ho
        go_upto_region 5 with fail
        go_quiet (fail)
        go_wp2_with fail
        exact ⟨⟨b, i + 1, rfl, by go_num, by omega, HN.out.1, HB5.out _⟩, by simp [intOf]; omega⟩
      | true =>
        rw [ho] at p3
        have HON : Hid (x.on = true) := ho
        clear ho
        go_upto_region 5 with fail
        have m7 := cell_regrown p3
        have m0 := cell_regrown p0
        have m1 := cell_regrown p1
        have m2 := cell_regrown p2
        have m6 := cell_regrown e1
        by_cases hb : b = -1
        · subst hb
          have HN : Hid (∀ d os, Rx l (i + 1) i ∧ Below W.heap.size W (grow (redrawn wr d) os)) := fun d os => ⟨HX.out.1.first HXX.out HON.out, HX.out.2.trans ((below_regrown wr d os).mono HX.out.2.size)⟩
          clear HX
          refine wp_region_quiet_below (by kernel_rfl) (by kernel_rfl) ?_
          repeat (first | go_big_quiet_step (fail) | quiet_step (fail))
          refine wpQuiet_nil ?_
          intro _ hw'
          obtain ⟨⟨dq, osq⟩, hw''⟩ := hw'
          subst hw''
          go_wp2_with fail
          exact ⟨⟨i, i + 1, rfl, by go_num, by omega, HN.out _ _⟩, by simp [intOf]; omega⟩
        · obtain ⟨j, y, hbj, hji, hy, hyo⟩ : ∃ (j : Nat) (y : RE), b = (j : Int) ∧ j < i ∧ l[j]? = some y ∧ y.on = true := by
            rcases HX.out.1 with ⟨q, _⟩ | ⟨j, e, q1, q2, q3, q4, _⟩
            · exact absurd q hb
            · exact ⟨j, e, q1, q2, q3, q4⟩
          subst hbj
          have r0 := R1.out.cell hy (j := 0) rfl (by decide)
          have r1 := R1.out.cell hy (j := 1) rfl (by decide)
          have r2 := R1.out.cell hy (j := 2) rfl (by decide)
          rw [Nat.add_zero] at r0
          have m3 := cell_regrown r0
          have m4 := cell_regrown r1
          have m5 := cell_regrown r2
          have H16 : Hid (∀ w, Calls Try.prog 16 #[.agg #[.int .u64 x.k.n, .int .u64 x.k.d, .int .i64 x.k.t], .agg #[.int .u64 y.k.n, .int .u64 y.k.d, .int .i64 y.k.t]] w fun e w' => e = .returned (.int .i64 (rc x.k y.k)) ∧ Below w.heap.size w w') := fun w => rcompare_any _ _ w (hk.out x (List.mem_of_getElem? HXX.out) HON.out).n (hk.out x (List.mem_of_getElem? HXX.out) HON.out).d (hk.out y (List.mem_of_getElem? hy) hyo).n (hk.out y (List.mem_of_getElem? hy) hyo).d
          have HC : Hid ((rc x.k y.k < 0 → Rx l (i + 1) i) ∧ (¬ rc x.k y.k < 0 → Rx l (i + 1) j)) := HX.out.1.cmp hk.out HXX.out HON.out hy hyo
          have HBB : Hid (∀ d os, Below W.heap.size W (grow (redrawn wr d) os)) := fun d os => HX.out.2.trans ((below_regrown wr d os).mono HX.out.2.size)
          have hj0 : decide ((j : Int) < 0) = false := decide_eq_false (by omega)
          have hj1 : (j : Int) < (l.length : Int) := by omega
          have hj2 : 0 ≤ (j : Int) := by omega
          have HJL : Hid (j < i) := hji
          clear HX hy hyo hb hji r0 r1 r2
          generalize rc x.k y.k = z at *
          have G16 := grown9 (W := wr) H16
          by_cases hz : z < 0
          · have HN := HC.out.1 hz
            have HZ1 : Hid (Rx l (i + 1) i) := HN
            have hz1 : decide (z < 0) = true := decide_eq_true hz
            have hz2 : decide (0 ≤ z) = false := decide_eq_false (by omega)
            clear HN
            refine wp_region_quiet_below (by kernel_rfl) (by kernel_rfl) ?_
            repeat (first | go_big_quiet_step ((go_at_call 16; exact G16.out _ _)) | quiet_step ((go_at_call 16; exact G16.out _ _)))
            refine wpQuiet_nil ?_
            intro _ hw'
            obtain ⟨⟨dq, osq⟩, hw''⟩ := hw'
            subst hw''
            go_wp2_with fail
            exact ⟨⟨i, i + 1, rfl, by go_num, by omega, HZ1.out, HBB.out _ _⟩, by simp [intOf]; omega⟩
          · have HN := HC.out.2 hz
            have HZ1 : Hid (Rx l (i + 1) j) := HN
            have hz1 : decide (z < 0) = false := decide_eq_false hz
            have hz2 : 0 ≤ z := by omega
            clear HN
            refine wp_region_quiet_below (by kernel_rfl) (by kernel_rfl) ?_
            repeat (first | go_big_quiet_step ((go_at_call 16; exact G16.out _ _)) | quiet_step ((go_at_call 16; exact G16.out _ _)))
            refine wpQuiet_nil ?_
            intro _ hw'
            obtain ⟨⟨dq, osq⟩, hw''⟩ := hw'
            subst hw''
            go_wp2_with fail
            exact ⟨⟨j, i + 1, rfl, by go_num, by omega, HZ1.out, HBB.out _ _⟩, by simp [intOf]; omega⟩
    · have hil' : ¬ (i : Int) < (l.length : Int) := by omega
      have hii : i = l.length := by omega
      have HF : Hid (Rx l l.length b) := by have := HX.out.1; rw [hii] at this; exact this
      have HB : Hid (Below w.heap.size w wr) := B0.out.trans (HX.out.2.mono B0.out.size)
      have G1 : Hid (wr.heap[w.heap.size]? = some (.cells #[.int .u64 0, .int .u64 0, .int .i64 0] 49 (0, 0))) := at_below HX.out.2 (Nat.le_refl _) G0.out
      obtain ⟨q0, q1, q2⟩ := c3 G1.out
      obtain ⟨f0, f1, f2⟩ := f3 G1.out
      clear HX hii
      by_cases hb : b = -1
      · subst hb
        go_wp2_with fail
        refine bodyPost_ret (v := .tuple #[.int .i64 0, ktup 0 0 0, .int .i64 3]) (by rw [results_tct rfl]; go_simp; rfl) rfl ⟨Ea.none HF.out, ?_⟩
        go_grown
        exact HB.out
      · obtain ⟨j, y, hbj, hji, hy⟩ : ∃ (j : Nat) (y : RE), b = (j : Int) ∧ j < l.length ∧ l[j]? = some y := by
          rcases HF.out with ⟨q, _⟩ | ⟨j, e, q1, q2, q3, q4, _⟩
          · exact absurd q hb
          · exact ⟨j, e, q1, q2, q3⟩
        subst hbj
        have hne : l ≠ [] := by rintro q; rw [q] at hji; simp at hji
        obtain ⟨g, c', hg'⟩ := R1.out.row hne
        have ea : a = some ⟨g, 0, none⟩ ∧ c = c' := by simpa using hg'
        obtain ⟨rfl, rfl⟩ := ea
        clear hg' hne
        have r0 := R1.out.cell hy (j := 0) rfl (by decide)
        have r1 := R1.out.cell hy (j := 1) rfl (by decide)
        have r2 := R1.out.cell hy (j := 2) rfl (by decide)
        rw [Nat.add_zero] at r0
        have HEA : Hid (Ea l (.returned (.tuple #[.int .i64 j, ktup y.k.n y.k.d y.k.t, .int .i64 0]))) := Ea.some HF.out hy
        have hj0 : ¬ (j : Int) < 0 := by omega
        have hj1 : (j : Int) < (l.length : Int) := by omega
        have hj2 : 0 ≤ (j : Int) := by omega
        clear HF hy hb hji
        go_upto_region 9 with fail
        go_region
        all_goals go_wp2_with fail
        all_goals refine bodyPost_ret (v := .tuple #[.int .i64 j, ktup y.k.n y.k.d y.k.t, .int .i64 0]) (by rw [results_tct rfl]; go_simp; rfl) rfl ⟨HEA.out, ?_⟩
        all_goals go_grown
        all_goals exact HB.out
end
end Go.Proofs.Ytmcmldlnmmbbgaa
