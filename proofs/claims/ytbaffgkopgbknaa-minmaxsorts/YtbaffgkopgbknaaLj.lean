/-
  MinmaxSorts' law: the walk.
-/
import Derived.Test.YtbaffgkopgbknaaLi
namespace Go.Proofs.Ytbaffgkopgbknaa
open Go.RowKit Go.Maps Go.Sort

theorem app_fact {W w : World} {ha hb x : Nat} {Ca Cb : Ct} {n m : Nat} {uv dv : Value} {ul dl : List Nat} (h : Sm w W ha hb Ca Cb n m uv dv ul dl) : Rw (W.alloc (.cells #[nv x] 3)) uv ul ∧ (W.alloc (.cells #[nv x] 3)).cell? ⟨W.heap.size, 0, none⟩ = some (nv x) := by
  refine ⟨h.u.keep fun k hk => Below.heap_alloc W _ k (h.u.lt hk), ?_⟩
  unfold World.cell?
  rw [new0]
  rfl
theorem grown {W : World} {f : FuncId} {args : Array Value} {v : Value} (H : Hid (∀ w, Calls Try.prog f args w fun e w' => e = .returned v ∧ Below w.heap.size w w')) :
    Hid (∀ d os, Calls Try.prog f args (grow (redrawn W d) os) fun e w'' => e = .returned v ∧ ∃ p : Regrown, w'' = grow (redrawn W p.d) p.os) := fun _ _ => Calls.regrown_of (H.out _)
theorem rc_two {L : List K} {a b : Nat} (hab : ev L 0 a < ev L 0 b) (ha : a < 1048576) (hb : b < 1048576) : rc (lk L a) (lk L b) = -1 ∨ (rc (lk L a) (lk L b) = 0 ∧ a < b) := by
  unfold ev sg at hab
  rw [if_pos rfl, if_pos rfl] at hab
  unfold rc
  by_cases h1 : enc (lk L a) 0 < enc (lk L b) 0
  · rw [if_pos h1]; exact .inl rfl
  · rw [if_neg h1, if_neg (by unfold enc at *; omega)]
    exact .inr ⟨rfl, by unfold enc at *; omega⟩
/-- behind all pops -/
structure Sz (w wr : World) (ha hb : Nat) (L : List K) (uv dv : Value) (ul dl : List Nat) : Prop where
  m : ∃ Ca Cb, Sm w wr ha hb Ca Cb L.length 0 uv dv ul dl
  r : ul = dl.reverse
  p : Ps L 0 ul
  lu : ul.length = L.length
  ld : dl.length = L.length
theorem Se.done {w wr : World} {ha hb : Nat} {L : List K} {uv dv : Value} (h : Se w wr ha hb L uv dv L.length) : ∃ ul dl, Sz w wr ha hb L uv dv ul dl := by
  obtain ⟨ul, dl, M, pu, pd, lu, ld⟩ := h
  rw [Nat.sub_self] at M
  refine ⟨ul, dl, ⟨_, _, M⟩, both_lists pu pd (fun x hx => ?_) (fun x hx => ?_), pu, lu, ld⟩
  · by_cases q : x ∈ ul
    · exact q
    · have := M.t.none x
      rw [rest_at hx q] at this
      cases this
  · by_cases q : x ∈ dl
    · exact q
    · have := M.t.swap.none x
      rw [rest_at hx q] at this
      cases this
theorem Sz.below {w wr w' : World} {ha hb : Nat} {L : List K} {uv dv : Value} {ul dl : List Nat} (h : Sz w wr ha hb L uv dv ul dl) (b : Below wr.heap.size wr w') : Sz w w' ha hb L uv dv ul dl := by
  obtain ⟨Ca, Cb, M⟩ := h.m
  exact ⟨⟨Ca, Cb, M.below b⟩, h.r, h.p, h.lu, h.ld⟩
/-- what a round of the last loop reads -/
structure Rd (w wr : World) (L : List K) (q1 : Option Addr) (ul dl : List Nat) (uv dv : Value) (i : Nat) : Prop where
  ex : ∃ gu gd cu cd x, uv = .slice (some ⟨gu, 0, none⟩) L.length cu ∧ dv = .slice (some ⟨gd, 0, none⟩) L.length cd ∧ wr.cell? ⟨gu, i, none⟩ = some (.int .i64 (x : Nat)) ∧ wr.cell? ⟨gd, L.length - 1 - i, none⟩ = some (.int .i64 (x : Nat)) ∧ x < L.length ∧
    (0 < i → ∃ y : Nat, wr.cell? ⟨gu, i - 1, none⟩ = some (.int .i64 y) ∧ y < L.length ∧ ev L 0 y < ev L 0 x)
theorem Sz.rd {w wr : World} {ha hb : Nat} {L : List K} {q1 : Option Addr} {uv dv : Value} {ul dl : List Nat} (h : Sz w wr ha hb L uv dv ul dl) {i : Nat} (hi : i < L.length) : Rd w wr L q1 ul dl uv dv i := by
  obtain ⟨Ca, Cb, M⟩ := h.m
  have lu := h.lu
  have ld := h.ld
  have hiu : i < ul.length := by omega
  have hjd : L.length - 1 - i < dl.length := by omega
  obtain ⟨gu, cu, eu⟩ := shape_n M.u (by omega)
  obtain ⟨gd, cd, ed⟩ := shape_n M.d (by omega)
  have mu := M.u
  have md := M.d
  rw [eu] at mu
  rw [ed] at md
  rw [lu] at eu
  rw [ld] at ed
  have e1 : dl[L.length - 1 - i] = ul[i] := by
    have hr := h.r
    have : ul[i]? = dl[L.length - 1 - i]? := by
      rw [hr, List.getElem?_reverse (by omega), ld]
    rw [List.getElem?_eq_getElem hiu, List.getElem?_eq_getElem hjd] at this
    exact (Option.some.inj this).symm
  refine ⟨gu, gd, cu, cd, ul[i], eu, ed, mu.cell hiu, by rw [← e1]; exact md.cell hjd, h.p.lt _ (List.getElem_mem _), fun h0 => ⟨ul[i - 1], mu.cell (by omega), h.p.lt _ (List.getElem_mem _), ?_⟩⟩
  exact List.pairwise_iff_getElem.1 h.p.pw (i - 1) i (by omega) hiu (by omega)
set_option maxHeartbeats 8000000 in
set_option maxRecDepth 100000 in
theorem sorts_law (q1 : Option Addr) (c1 : Nat) (L : List K) (w : World) (hL : Hid (Kys w q1 L)) :
    Calls Try.prog 4 #[.slice q1 L.length c1] w fun e w' => e = .returned (.bool true) ∧ Below w.heap.size w w' := by
  have H8 : Hid (∀ w, Calls Try.prog 8 #[] w fun e w' => e = .returned (.bool true) ∧ Below w.heap.size w w') := awake_any
  have H9 : Hid (∀ w, Calls Try.prog 9 #[] w fun e w' => e = .returned (.pointer (some ⟨w.heap.size, 0, none⟩)) ∧ w' = w.alloc (.cells zeroH 58)) := fun w => new_at w
  have q32 := eq32s
  go_enter Try.func4, Try.ntmps4
  by_cases hn : 1000 < L.length
  · have hn' : (1000 : Int) < (L.length : Int) := by omega
    go_upto_region 2 with (go_at_call 8; refine (H8.out _).mono ?_; rintro e w1 ⟨rfl, b1⟩)
    have B1 : Hid (Below w.heap.size w w1) := b1
    clear b1
    go_wp2_with (go_at_call 8; refine (H8.out _).mono ?_; rintro e w2 ⟨rfl, b2⟩)
    go_ret
    exact ⟨rfl, B1.out.trans (b2.mono B1.out.size)⟩
  · have hn' : ¬ (1000 : Int) < (L.length : Int) := by omega
    go_upto_region 3 with (go_at_call 8; refine (H8.out _).mono ?_; rintro e w1 ⟨rfl, b1⟩)
    have B1 : Hid (Below w.heap.size w w1) := b1
    clear b1
    go_upto_region 4 with (go_at_call 9; refine (H9.out _).mono ?_; rintro e w2 ⟨rfl, rfl⟩)
    have L0 : Hid (Tw w ((w1.alloc (.cells zeroH 58)).alloc (.cells zeroH 58)) w1.heap.size (cf (lk L) 0) 0 0 (w1.heap.size + 1) (cf (lk L) 0) 0 0 NoS) := by
      rw [cf_nil]
      exact tw_new w w1 NoS B1.out nofun
    generalize (w1.alloc (.cells zeroH 58)).alloc (.cells zeroH 58) = W at *
    generalize w1.heap.size = ha at *
    clear B1 H8 H9
    go_wp2_with fail
    go_loopw [5] (fun t wr => ∃ i : Nat, i ≤ L.length ∧ t = .int .i64 i ∧ Hid (Tw w wr ha (cf (lk L) i) i i (ha + 1) (cf (lk L) i) i i NoS)) (fun t _ => L.length - (intOf t).toNat)
    case atStart => exact ⟨0, Nat.zero_le _, rfl, L0.out⟩
    case round =>
      obtain ⟨i, hi, rfl, HE⟩ := hrel
      clear L0
      by_cases hil : i < L.length
      · have hil' : (i : Int) < (L.length : Int) := by omega
        obtain ⟨g, f, eq1, hok, d0, d1, d2⟩ := (hL.out.keep (w1 := wr) (by exact HE.out.b)).at hil
        subst eq1
        have H12 : Hid (Calls Try.prog 12 #[.pointer (some ⟨ha, 0, none⟩), .agg #[.int .i64 L[i].a, .int .i64 L[i].b, .int .i64 L[i].c]] wr fun e w' => e = .returned (.tuple #[.int .i64 i, .int .i64 0]) ∧ Hid (w'.cell? ⟨g, f + i * 3, none⟩ = some (.int .i64 L[i].a) ∧ w'.cell? ⟨g, f + i * 3 + 1, none⟩ = some (.int .i64 L[i].b) ∧ w'.cell? ⟨g, f + i * 3 + 2, none⟩ = some (.int .i64 L[i].c) ∧ Calls Try.prog 12 #[.pointer (some ⟨ha + 1, 0, none⟩), .agg #[.int .i64 L[i].a, .int .i64 L[i].b, .int .i64 L[i].c]] w' fun e w2 => e = .returned (.tuple #[.int .i64 i, .int .i64 0]) ∧ Hid (Tw w w2 ha (cf (lk L) (i + 1)) (i + 1) (i + 1) (ha + 1) (cf (lk L) (i + 1)) (i + 1) (i + 1) NoS))) := by
          refine (tw_insert HE.out L[i] hok (by omega)).mono ?_
          rintro e w' ⟨rfl, h1, _⟩
          obtain ⟨g', f', eq2, _, e0, e1, e2⟩ := (hL.out.keep (w1 := w') (by exact h1.b)).at hil
          cases eq2
          refine ⟨rfl, e0, e1, e2, ?_⟩
          refine (tw_insert h1.swap L[i] hok (by omega)).mono ?_
          rintro e w2 ⟨rfl, h2, _⟩
          have h3 := h2.swap
          rw [← lk_at hil, cf_put] at h3
          exact ⟨rfl, h3⟩
        clear HE
        generalize L[i] = kk at *
        go_upto_region 8 with (go_at_call 12; refine H12.out.mono ?_; first | rintro e w2 rfl h2 | rintro e w2 ⟨rfl, h2⟩)
        clear d0 d1 d2
        obtain ⟨d0, d1, d2, H13⟩ := h2.out
        have H13' : Hid (Calls Try.prog 12 #[.pointer (some ⟨ha + 1, 0, none⟩), .agg #[.int .i64 kk.a, .int .i64 kk.b, .int .i64 kk.c]] w2 fun e w2 => e = .returned (.tuple #[.int .i64 i, .int .i64 0]) ∧ Hid (Tw w w2 ha (cf (lk L) (i + 1)) (i + 1) (i + 1) (ha + 1) (cf (lk L) (i + 1)) (i + 1) (i + 1) NoS)) := H13
        clear H13 h2
        go_wp2_with (go_at_call 12; refine H13'.out.mono ?_; first | rintro e w3 rfl h3 | rintro e w3 ⟨rfl, h3⟩)
        exact ⟨⟨i + 1, by omega, by go_num, h3.out⟩, by simp [intOf]; omega⟩
      · have hil' : ¬ (i : Int) < (L.length : Int) := by omega
        have E0 : Hid (Se w wr ha (ha + 1) L (.slice none 0 0) (.slice none 0 0) 0) := by
          have hii : i = L.length := by omega
          have := HE.out
          rw [hii, ← rest_nil] at this
          exact ⟨[], [], ⟨this.less (fun k q => (by rcases q with q | q <;> cases q)), Rw.nil _, Rw.nil _, fun k q => (by cases q), fun k q => (by rcases q with q | q <;> cases q)⟩, Ps.nil _ _, Ps.nil _ _, rfl, rfl⟩
        clear HE
        go_wp2_with fail
        go_loopw [6, 7, 8] (fun t6 t7 t8 wr => ∃ j : Nat, j ≤ L.length ∧ t8 = .int .i64 j ∧ Hid (Se w wr ha (ha + 1) L t6 t7 j)) (fun _ _ t8 _ => L.length - (intOf t8).toNat)
        case atStart => exact ⟨0, Nat.zero_le _, rfl, E0.out⟩
        case round =>
          obtain ⟨j, hj, rfl, HF⟩ := hrel
          clear E0
          by_cases hjl : j < L.length
          · have hjl' : (j : Int) < (L.length : Int) := by omega
            obtain ⟨ul, dl, hS, pu, pd, lu, ld⟩ := HF.out
            obtain ⟨x, y, hx, hy, pu2, pd2, hpop⟩ := hS.pops (by omega) (by omega) pu pd
            have HP : Hid (Calls Try.prog 13 #[.pointer (some ⟨ha, 0, none⟩)] wr fun e w' => e = .returned (.tuple #[.int .i64 x, .agg #[.int .i64 (lk L x).a, .int .i64 (lk L x).b, .int .i64 (lk L x).c], .int .i64 0]) ∧ Hid (∀ w2, w2 = w'.alloc (.cells (kc (lk L x)) 32) → Calls Try.prog 14 #[.pointer (some ⟨ha + 1, 0, none⟩)] w2 fun e w3 => e = .returned (.tuple #[.int .i64 y, .agg #[.int .i64 (lk L y).a, .int .i64 (lk L y).b, .int .i64 (lk L y).c], .int .i64 0]) ∧ Hid (w3.heap[w'.heap.size]? = some (.cells (kc (lk L x)) 32 (0, 0)) ∧ Sm w w3 ha (ha + 1) (rest L (ul ++ [x])) (rest L (dl ++ [y])) L.length (L.length - j - 1) u6 u7 ul dl))) := hpop
            have HQ : Hid (Ps L 0 (ul ++ [x]) ∧ Ps L 1 (dl ++ [y]) ∧ ul.length = j ∧ dl.length = j) := ⟨pu2, pd2, lu, ld⟩
            have HLX : Hid (lk L x = L[x]) := lk_at hx
            have HLY : Hid (lk L y = L[y]) := lk_at hy
            clear hS pu pd lu ld pu2 pd2 hpop HF
            generalize lk L x = kx at *
            generalize lk L y = ky at *
            go_upto_region 14 with (go_at_call 13; refine HP.out.mono ?_; first | rintro e w2 rfl h2 | rintro e w2 ⟨rfl, h2⟩)
            have HR : Hid (Calls Try.prog 14 #[.pointer (some ⟨ha + 1, 0, none⟩)] (w2.alloc (.cells #[.int .i64 kx.a, .int .i64 kx.b, .int .i64 kx.c] 32)) fun e w3 => e = .returned (.tuple #[.int .i64 y, .agg #[.int .i64 ky.a, .int .i64 ky.b, .int .i64 ky.c], .int .i64 0]) ∧ Hid (w3.heap[w2.heap.size]? = some (.cells (kc kx) 32 (0, 0)) ∧ Sm w w3 ha (ha + 1) (rest L (ul ++ [x])) (rest L (dl ++ [y])) L.length (L.length - j - 1) u6 u7 ul dl)) := h2.out _ rfl
            generalize w2.alloc (.cells #[.int .i64 kx.a, .int .i64 kx.b, .int .i64 kx.c] 32) = W3 at *
            generalize w2.heap.size = bx at *
            clear HP h2
            go_upto_region 15 with (go_at_call 14; refine HR.out.mono ?_; first | rintro e w4 rfl h4 | rintro e w4 ⟨rfl, h4⟩)
            have M5 : Hid (Sm w (w4.alloc (.cells #[.int .i64 ky.a, .int .i64 ky.b, .int .i64 ky.c] 32)) ha (ha + 1) (rest L (ul ++ [x])) (rest L (dl ++ [y])) L.length (L.length - j - 1) u6 u7 ul dl) := h4.out.2.below ((Below.refl _ w4).alloc (Nat.le_refl _) _)
            obtain ⟨y0, y1, y2⟩ := c3 (at_alloc (o' := .cells #[.int .i64 ky.a, .int .i64 ky.b, .int .i64 ky.c] 32) h4.out.1)
            obtain ⟨z0, z1, z2⟩ := c3 (w := w4.alloc (.cells #[.int .i64 ky.a, .int .i64 ky.b, .int .i64 ky.c] 32)) (g := w4.heap.size) new0
            generalize w4.alloc (.cells #[.int .i64 ky.a, .int .i64 ky.b, .int .i64 ky.c] 32) = W5 at *
            generalize w4.heap.size = by' at *
            clear h4 HR
            obtain ⟨g, f, eq1, hokx, d0, d1, d2⟩ := (hL.out.keep (w1 := W5) (by exact M5.out.t.b)).at hx
            obtain ⟨g', f', eq2, hoky, e0, e1, e2⟩ := (hL.out.keep (w1 := W5) (by exact M5.out.t.b)).at hy
            have eqs : some (⟨g, f, none⟩ : Addr) = some ⟨g', f', none⟩ := eq1.symm.trans eq2
            simp only [Option.some.injEq, Addr.mk.injEq, and_true] at eqs
            obtain ⟨rfl, rfl⟩ := eqs
            rw [← HLX.out] at d0 d1 d2
            rw [← HLY.out] at e0 e1 e2
            subst eq1
            clear eq2 HLX HLY hokx hoky
            have a1 : decide ((x : Int) < 0) = false := decide_eq_false (by omega)
            have a2 : decide ((L.length : Int) ≤ (x : Int)) = false := decide_eq_false (by omega)
            have a3 : decide ((y : Int) < 0) = false := decide_eq_false (by omega)
            have a4 : decide ((L.length : Int) ≤ (y : Int)) = false := decide_eq_false (by omega)
            have a5 : (x : Int) < (L.length : Int) := by omega
            have a6 : (y : Int) < (L.length : Int) := by omega
            go_quiet (fail)
            have M6 : Hid (Sm w (W5.drewN nq) ha (ha + 1) (rest L (ul ++ [x])) (rest L (dl ++ [y])) L.length (L.length - j - 1) u6 u7 ul dl) := M5.out.below (below_drewN (Below.refl _ _) nq)
            generalize W5.drewN nq = W6 at *
            clear d0 d1 d2 e0 e1 e2 y0 y1 y2 z0 z1 z2 M5 a1 a2 a3 a4 a5 a6
            have hlj : Hid (ul.length ≤ 1048576 ∧ dl.length ≤ 1048576) := by have := HQ.out; unfold Hid; omega
            have A6 : Hid (Rw (W6.alloc (.cells #[nv x] 3)) u6 ul ∧ (W6.alloc (.cells #[nv x] 3)).cell? ⟨W6.heap.size, 0, none⟩ = some (nv x)) := app_fact M6.out
            go_upto_region 18 with (at_builtin; refine append_nat (w := W6.alloc (.cells #[nv x] 3)) rfl _ _ rfl u6 ul x rfl A6.out.1 W6.heap.size 1 rfl A6.out.2 hlj.out.1 ?_; intro v7 w7 h1 h2 h3; have M7 : Hid (Sm w w7 ha (ha + 1) (rest L (ul ++ [x])) (rest L (dl ++ [y])) L.length (L.length - j - 1) v7 u7 (ul ++ [x]) dl) := M6.out.app h1 h2 h3; clear h1 h2 h3)
            clear A6 M6
            have A7 : Hid (Rw (w7.alloc (.cells #[nv y] 3)) u7 dl ∧ (w7.alloc (.cells #[nv y] 3)).cell? ⟨w7.heap.size, 0, none⟩ = some (nv y)) := app_fact M7.out.flip
            go_wp2_with (at_builtin; refine append_nat (w := w7.alloc (.cells #[nv y] 3)) rfl _ _ rfl u7 dl y rfl A7.out.1 w7.heap.size 1 rfl A7.out.2 hlj.out.2 ?_; intro v8 w8 h1 h2 h3; have M8 : Hid (Sm w w8 ha (ha + 1) (rest L (ul ++ [x])) (rest L (dl ++ [y])) L.length (L.length - j - 1) v7 v8 (ul ++ [x]) (dl ++ [y])) := (M7.out.flip.app h1 h2 h3).flip; clear h1 h2 h3)
            refine ⟨⟨j + 1, by omega, by go_num, ul ++ [x], dl ++ [y], ?_, HQ.out.1, HQ.out.2.1, by rw [List.length_append, HQ.out.2.2.1]; rfl, by rw [List.length_append, HQ.out.2.2.2]; rfl⟩, by simp [intOf]; omega⟩
            rw [show L.length - (j + 1) = L.length - j - 1 by omega]
            exact M8.out
          · have hjl' : ¬ (j : Int) < (L.length : Int) := by omega
            obtain ⟨ul, dl, hZ⟩ : ∃ ul dl, Sz w wr ha (ha + 1) L u6 u7 ul dl := by
              have := HF.out
              rw [show j = L.length by omega] at this
              exact this.done
            have Z0 : Hid (Sz w wr ha (ha + 1) L u6 u7 ul dl) := hZ
            clear hZ HF
            go_wp2_with fail
            go_loopw [15] (fun t wr => ∃ i : Nat, i ≤ L.length ∧ t = .int .i64 i ∧ Hid (Sz w wr ha (ha + 1) L u6 u7 ul dl)) (fun t _ => L.length - (intOf t).toNat)
            case atStart => exact ⟨0, Nat.zero_le _, rfl, Z0.out⟩
            case round =>
              obtain ⟨m, hm, rfl, HZ⟩ := hrel
              clear Z0
              by_cases hml : m < L.length
              · have hml' : (m : Int) < (L.length : Int) := by omega
                obtain ⟨gu, gd, cu, cd, x, eu, ed, cx, cx2, hx, hy⟩ := (HZ.out.rd (q1 := q1) hml).ex
                subst eu
                subst ed
                obtain ⟨r, hr⟩ : ∃ r, r = L.length - 1 - m := ⟨_, rfl⟩
                rw [← hr] at cx2
                have hr2 : (L.length : Int) - 1 - (m : Int) = (r : Int) := by omega
                have hr3 : (r : Int) < (L.length : Int) := by omega
                have HRR : Hid (r = L.length - 1 - m) := hr
                have HY : Hid (0 < m → ∃ y : Nat, wr.cell? ⟨gu, m - 1, none⟩ = some (.int .i64 y) ∧ y < L.length ∧ ev L 0 y < ev L 0 x) := hy
                clear hr hy
                go_upto_region 22 with fail
                go_quiet (fail)
                have Z1 : Hid (Sz w (wr.drewN nq) ha (ha + 1) L (.slice (some ⟨gu, 0, none⟩) L.length cu) (.slice (some ⟨gd, 0, none⟩) L.length cd) ul dl) := HZ.out.below (below_drewN (Below.refl _ _) nq)
                have HY2 : Hid (0 < m → ∃ y : Nat, (wr.drewN nq).cell? ⟨gu, m - 1, none⟩ = some (.int .i64 y) ∧ y < L.length ∧ ev L 0 y < ev L 0 x) := HY.out
                have cx3 : (wr.drewN nq).cell? ⟨gu, m, none⟩ = some (.int .i64 x) := cx
                generalize wr.drewN nq = W2 at *
                clear cx cx2 hr2 hr3 HZ HY
                by_cases hm0 : 0 < m
                · have hm0' : 0 < (m : Int) := by omega
                  obtain ⟨y, cy, hy1, hy2⟩ := HY2.out hm0
                  obtain ⟨p, hp⟩ : ∃ p, p = m - 1 := ⟨_, rfl⟩
                  rw [← hp] at cy
                  have hp2 : (m : Int) - 1 = (p : Int) := by omega
                  have hp3 : (p : Int) < (L.length : Int) := by omega
                  obtain ⟨Ca, Cb, M⟩ := Z1.out.m
                  obtain ⟨g, f, eq1, hokx, d0, d1, d2⟩ := (hL.out.keep (w1 := W2) (by exact M.t.b)).at hx
                  obtain ⟨g', f', eq2, hoky, e0, e1, e2⟩ := (hL.out.keep (w1 := W2) (by exact M.t.b)).at hy1
                  have eqs : some (⟨g, f, none⟩ : Addr) = some ⟨g', f', none⟩ := eq1.symm.trans eq2
                  simp only [Option.some.injEq, Addr.mk.injEq, and_true] at eqs
                  obtain ⟨rfl, rfl⟩ := eqs
                  rw [← lk_at hx] at d0 d1 d2 hokx
                  rw [← lk_at hy1] at e0 e1 e2 hoky
                  subst eq1
                  have a5 : (x : Int) < (L.length : Int) := by omega
                  have a6 : (y : Int) < (L.length : Int) := by omega
                  have H15 : Hid (∀ w, Calls Try.prog 15 #[.agg #[.int .i64 (lk L y).a, .int .i64 (lk L y).b, .int .i64 (lk L y).c], .agg #[.int .i64 (lk L x).a, .int .i64 (lk L x).b, .int .i64 (lk L x).c]] w fun e w' => e = .returned (.int .i64 (rc (lk L y) (lk L x))) ∧ Below w.heap.size w w') := fun w => rcompare_any _ _ w hoky hokx
                  have HRC : Hid (rc (lk L y) (lk L x) = -1 ∨ (rc (lk L y) (lk L x) = 0 ∧ y < x)) := rc_two hy2 (by omega) (by omega)
                  clear M eq2 HY2 hp hokx hoky hy2
                  generalize rc (lk L y) (lk L x) = z at *
                  generalize lk L x = kx at *
                  generalize lk L y = ky at *
                  go_upto_region 25 with fail
                  have G15 := grown (W := W2) H15
                  have m0 := cell_regrown d0
                  have m1 := cell_regrown d1
                  have m2 := cell_regrown d2
                  have m3 := cell_regrown e0
                  have m4 := cell_regrown e1
                  have m5 := cell_regrown e2
                  have m6 := cell_regrown cx3
                  have m7 := cell_regrown cy
                  refine wp_region_quiet_below (by kernel_rfl) (by kernel_rfl) ?_
                  repeat (first | go_big_quiet_step ((go_at_call 15; exact G15.out _ _)) | quiet_step ((go_at_call 15; exact G15.out _ _)))
                  refine wpQuiet_nil ?_
                  intro _ hw'
                  obtain ⟨⟨dq, osq⟩, hw''⟩ := hw'
                  subst hw''
                  have Z3 : Hid (Sz w (grow (redrawn W2 dq) osq) ha (ha + 1) L (.slice (some ⟨gu, 0, none⟩) L.length cu) (.slice (some ⟨gd, 0, none⟩) L.length cd) ul dl) := Z1.out.below (below_regrown W2 dq osq)
                  have cx4 := m6 dq osq
                  have cy4 := m7 dq osq
                  clear m0 m1 m2 m3 m4 m5 m6 m7 d0 d1 d2 e0 e1 e2 cx3 cy Z1 H15 G15
                  generalize grow (redrawn W2 dq) osq = W4 at *
                  have HF3 : Hid (∀ n, Sz w (W4.drewN n) ha (ha + 1) L (.slice (some ⟨gu, 0, none⟩) L.length cu) (.slice (some ⟨gd, 0, none⟩) L.length cd) ul dl) := fun n => Z3.out.below (below_drewN (Below.refl _ _) n)
                  rcases HRC.out with hz | ⟨hz, hyx⟩
                  · subst hz
                    clear HRC
                    go_upto_region 26 with fail
                    go_quiet (fail)
                    go_wp2_with fail
                    exact ⟨⟨m + 1, by omega, by go_num, HF3.out _⟩, by simp [intOf]; omega⟩
                  · subst hz
                    clear HRC
                    have hyx' : decide ((x : Int) ≤ (y : Int)) = false := decide_eq_false (by omega)
                    go_upto_region 26 with fail
                    go_quiet (fail)
                    go_wp2_with fail
                    exact ⟨⟨m + 1, by omega, by go_num, HF3.out _⟩, by simp [intOf]; omega⟩
                · have hm0' : ¬ 0 < (m : Int) := by omega
                  go_wp2_with fail
                  exact ⟨⟨m + 1, by omega, by go_num, Z1.out⟩, by simp [intOf]; omega⟩
              · have hml' : ¬ (m : Int) < (L.length : Int) := by omega
                have H13 : Hid (Calls Try.prog 13 #[.pointer (some ⟨ha, 0, none⟩)] wr fun e w' => e = .returned (.tuple #[.int .i64 0, .agg #[.int .i64 0, .int .i64 0, .int .i64 0], .int .i64 3]) ∧ Hid (Below w.heap.size w w' ∧ ∀ w2, Below w'.heap.size w' w2 → (Calls Try.prog 16 #[.pointer (some ⟨ha, 0, none⟩)] w2 fun e w3 => e = .returned (.int .i64 0) ∧ w3 = w2) ∧ Calls Try.prog 16 #[.pointer (some ⟨ha + 1, 0, none⟩)] w2 fun e w3 => e = .returned (.int .i64 0) ∧ w3 = w2)) := by
                  obtain ⟨Ca, Cb, M⟩ := HZ.out.m
                  refine (tw_pop0 M.t (s := 0) (by decide)).mono ?_
                  rintro e w' ⟨rfl, b⟩
                  have t' := M.t.below b
                  exact ⟨rfl, t'.b, fun w2 b2 => ⟨tw_len (t'.below b2), tw_len (t'.below b2).swap⟩⟩
                clear HZ
                go_upto_region 29 with (go_at_call 13; refine H13.out.mono ?_; first | rintro e w4 rfl h4 | rintro e w4 ⟨rfl, h4⟩)
                have h5 := h4.out.2 (w4.alloc (.cells #[.int .i64 0, .int .i64 0, .int .i64 0] 32)) ((Below.refl _ w4).alloc (Nat.le_refl _) _)
                have hB : Hid (Below w.heap.size w (w4.alloc (.cells #[.int .i64 0, .int .i64 0, .int .i64 0] 32))) := h4.out.1.alloc h4.out.1.size _
                generalize w4.alloc (.cells #[.int .i64 0, .int .i64 0, .int .i64 0] 32) = W5 at *
                obtain ⟨h6, h7⟩ := h5
                have H6 : Hid (Calls Try.prog 16 #[.pointer (some ⟨ha, 0, none⟩)] W5 fun e w3 => e = .returned (.int .i64 0) ∧ w3 = W5) := h6
                have H7 : Hid (Calls Try.prog 16 #[.pointer (some ⟨ha + 1, 0, none⟩)] W5 fun e w3 => e = .returned (.int .i64 0) ∧ w3 = W5) := h7
                clear h6 h7 h4
                go_wp2_with (go_at_call_of 16 (Value.pointer (some ⟨ha, 0, none⟩)); refine H6.out.mono ?_; first | rintro e w6 rfl rfl | rintro e w6 ⟨rfl, rfl⟩)
                refine H7.out.mono ?_
                first | rintro e w7 rfl rfl | rintro e w7 ⟨rfl, rfl⟩
                go_wp2_with fail
                go_ret
                exact ⟨rfl, hB.out⟩
end Go.Proofs.Ytbaffgkopgbknaa
