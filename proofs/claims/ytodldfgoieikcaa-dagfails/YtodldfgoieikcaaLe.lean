/-
  DagOrder's law.
-/
import Derived.Test.YtodldfgoieikcaaLd
import Derived.Test.YtodldfgoieikcaaSa
namespace Go.Proofs.Ytodldfgoieikcaa
open Go.RowKit Go.Maps

theorem irow_gb {b : Nat} {w w1 : World} {gb : Nat} {g : GS} {u : Value} {E : List Int} (h : IRow b w u E) (hg : Gr w gb g) (k : Kp (fun k => k = gb) w w1) : IRow b w1 u E := h.keep fun j e => k.block j (h.lt e) (by
  rcases h.2 with ⟨e0, _⟩ | ⟨g', cap, cur, e0, _, hgg, _⟩
  · rw [e0] at e; cases e
  · rw [e0] at e
    have e' : g' = j := by injection e
    subst e'
    exact hg.typ hgg (by decide))
/-- while jobs are added -/
structure O1 (w0 w : World) (B gb : Nat) (u : Value) (m : Nat) (T : List Int) : Prop where
  g : ∃ g, PG w0 w gb g ∧ Th g T ∧ Ac g
  r : IRow B w u T
  n : m = T.length
  b : gb < B ∧ w0.heap.size ≤ B ∧ B ≤ w.heap.size
/-- while they are taken -/
structure O2 (w0 w : World) (B gb : Nat) (g : GS) (u : Value) (m : Nat) (T : List Int) (u2 : Value) (m2 : Nat) (O : List Int) : Prop where
  pg : PG w0 w gb g
  t : Th g T
  a : Ac g
  r : IRow w0.heap.size w u T
  n : m = T.length
  l : ∀ k, u.ownBlock = some k → k < B
  r2 : IRow B w u2 O
  n2 : m2 = O.length
  b : gb < B ∧ w0.heap.size ≤ B ∧ B ≤ w.heap.size
  d : O.Nodup
  s : ∀ y ∈ O, y ∈ T
theorem O2.len {w0 w : World} {B gb : Nat} {g : GS} {u : Value} {m : Nat} {T : List Int} {u2 : Value} {m2 : Nat} {O : List Int} (h : O2 w0 w B gb g u m T u2 m2 O) : m2 ≤ m ∧ m ≤ 100 := by
  have h1 := sub_len h.d h.t.d h.t.nums h.s
  have h2 := h.t.len
  have h3 := h.n
  have h4 := h.n2
  omega
theorem O2.kp {w0 w w1 : World} {B gb : Nat} {g : GS} {u : Value} {m : Nat} {T : List Int} {u2 : Value} {m2 : Nat} {O : List Int} (h : O2 w0 w B gb g u m T u2 m2 O) (k : Kp (fun k => k = gb) w w1) (hg : Gr w1 gb g) : O2 w0 w1 B gb g u m T u2 m2 O :=
  ⟨h.pg.kp k hg, h.t, h.a, irow_gb h.r h.pg.gr k, h.n, h.l, irow_gb h.r2 h.pg.gr k, h.n2, ⟨h.b.1, h.b.2.1, Nat.le_trans h.b.2.2 k.size⟩, h.d, h.s⟩
theorem O2.put {w0 w w1 : World} {B gb : Nat} {g : GS} {u : Value} {m : Nat} {T : List Int} {u2 u3 : Value} {m2 : Nat} {O : List Int} {x : Int} (h : O2 w0 w B gb g u m T u2 m2 O) (k : Below B w w1) (hr : IRow B w1 u3 (O ++ [x])) (hx : x ∉ O) (hT : x ∈ T) : O2 w0 w1 B gb g u m T u3 (m2 + 1) (O ++ [x]) := by
  refine ⟨⟨h.pg.gr.below k h.b.1, h.pg.bl.trans (k.mono h.b.2.1), h.pg.nb⟩, h.t, h.a, h.r.keep fun j e => k.block j (h.l j e), h.n, h.l, hr, by rw [List.length_append, ← h.n2]; rfl, ⟨h.b.1, h.b.2.1, Nat.le_trans h.b.2.2 k.size⟩, nodup_snoc h.d hx, fun y hy => ?_⟩
  rcases List.mem_append.1 hy with q | q
  · exact h.s y q
  · simp at q; rw [q]; exact hT
/-- in a turn: what was taken ahead of it, and which one can be -/
structure Tn (g : GS) (T O0 O : List Int) (x0 i : Nat) : Prop where
  p : ∃ D, O = O0 ++ D
  x : O0.length < T.length → (x0 : Int) ∈ T ∧ (x0 : Int) ∉ O0 ∧ ∀ p : Nat, p < 101 → g.ps x0 p = true → (p : Int) ∈ T → (p : Int) ∈ O0
  i : O0.length < T.length → ∀ j, j < i → T[j]? = some (x0 : Int) → (x0 : Int) ∈ O
set_option maxHeartbeats 4000000 in
set_option maxRecDepth 100000 in
theorem order_law (q : Option Addr) (n c : Nat) (L : List Opr) (w : World) (hn : n = L.length) (hq : Scr w q L) (h9 : n ≤ 9223372036854775807) :
    Calls Try.prog 4 #[.slice q n c] w fun e w' => e = .returned (.bool true) ∧ Below w.heap.size w w' := by
  have HA : Hid (∀ W, Below w.heap.size w W → Calls Try.prog 9 #[] W fun e w' => e = .returned (.bool true) ∧ Hid (Below w.heap.size w w')) := fun W b => awake_any w W b
  have HA0 : Hid (Calls Try.prog 9 #[] w fun e w' => e = .returned (.bool true) ∧ Hid (Below w.heap.size w w')) := HA.out w (Below.refl _ _)
  have HF : Hid (∀ W, Below w.heap.size w W → Calls Try.prog 10 #[.slice q n c] W fun e w' => e = .returned (.bool (fewB L)) ∧ w' = W) := fun W b => few_any W q n c L hn (hq.below b) h9
  have HS : Hid (n = L.length ∧ Scr w q L) := ⟨hn, hq⟩
  clear hn hq
  go_enter Try.func4, Try.ntmps4
  cases hf : fewB L
  · go_upto_region 2 with (first
      | (go_at_call 9; refine HA0.out.mono ?_; rintro e w1 ⟨rfl, b1⟩)
      | (go_at_call 10; refine (HF.out _ b1.out).mono ?_; rintro e w2 ⟨rfl, rfl⟩; rw [hf]))
    go_wp2_with (go_at_call 9; refine (HA.out _ b1.out).mono ?_; rintro e w3 ⟨rfl, b3⟩)
    go_ret
    exact ⟨rfl, b3.out⟩
  obtain ⟨hl, hps⟩ := few_yes hf
  have hn1 : n ≤ 150 := by have := HS.out.1; omega
  have HPS : Hid (∀ o ∈ L, o.n ≤ 300) := hps
  have HN : Hid (∀ W, Below w.heap.size w W → Calls Try.prog 11 #[] W fun e w' => e = .returned (.pointer (some ⟨W.heap.size, 0, none⟩)) ∧ Hid (PG w w' W.heap.size g0 ∧ w'.heap.size = W.heap.size + 1)) := fun W b => pg_new w W b
  clear hl hps HA
  go_upto_region 4 with (first
      | (go_at_call 9; refine HA0.out.mono ?_; rintro e w1 ⟨rfl, b1⟩)
      | (go_at_call 10; refine (HF.out _ b1.out).mono ?_; rintro e w2 ⟨rfl, rfl⟩; rw [hf])
      | (go_at_call 11; refine (HN.out _ b1.out).mono ?_; rintro e w3 ⟨rfl, h3⟩))
  clear HA0 HF HN hf b1
  have H1 : Hid (O1 w w3 w3.heap.size w2.heap.size (.slice none 0 0) 0 []) := ⟨⟨g0, h3.out.1, th_zero, ac_zero⟩, IRow.nil _ _, rfl, h3.out.1.gr.lt, h3.out.1.bl.size, Nat.le_refl _⟩
  clear h3
  generalize w2.heap.size = gb at *
  obtain ⟨B, hB⟩ : ∃ B, B = w3.heap.size := ⟨_, rfl⟩
  rw [← hB] at H1
  clear hB
  go_wp2_with fail
  go_loopw [4, 5] (fun t4 t5 wr => ∃ (i : Nat) (p : Option Addr) (m cc : Nat) (T : List Int), t4 = .slice p m cc ∧ t5 = .int .i64 i ∧ i ≤ n ∧ m ≤ 100 ∧ Hid (O1 w wr B gb (.slice p m cc) m T)) (fun _ t5 _ => n - (intOf t5).toNat)
  case atStart => exact ⟨0, none, 0, 0, [], rfl, rfl, Nat.zero_le _, Nat.zero_le _, H1.out⟩
  case round =>
    clear H1
    obtain ⟨i, p, m, cc, T, rfl, rfl, hin, hm1, H1⟩ := hrel
    by_cases hi : i < n
    · have hi' : (i : Int) < (n : Int) := by omega
      obtain ⟨o, ho⟩ : ∃ o, L[i]? = some o := ⟨_, List.getElem?_eq_getElem (by have := HS.out.1; omega)⟩
      obtain ⟨g, hg, hT, hA⟩ := H1.out.g
      have hbl := hg.bl
      obtain ⟨⟨gs, f, rfl, s0, s1, s2⟩, k1, k2, -⟩ := HS.out.2 i o ho
      have hgsl := cell_lt s0
      replace s0 := cell_below s0 hbl
      replace s1 := cell_below s1 hbl
      replace s2 := cell_below s2 hbl
      have HC : Hid (∀ W, Below w.heap.size w W → W.cell? ⟨gs, f + i * 3 + 1, none⟩ = some (.int .i64 o.id) ∧ W.cell? ⟨gs, f + i * 3 + 2, none⟩ = some (.slice o.p o.n o.c)) := fun W hW => by
        obtain ⟨⟨gs', f', e, t0, t1, t2⟩, _⟩ := HS.out.2 i o ho
        cases e
        exact ⟨cell_below t1 hW, cell_below t2 hW⟩
      by_cases hk : o.kd = 1
      · have hk' : (o.kd == 1) = true := by simp [hk]
        have hpn := HPS.out o (List.mem_of_getElem? ho)
        have H15 : Hid (∀ W, W = wr.drew → Calls Try.prog 15 #[.pointer (some ⟨gb, 0, none⟩), .int .i64 o.id, .slice o.p o.n o.c] W fun e w' => ∃ a er, e = .returned (.tuple #[.bool a, .int .i64 er]) ∧ (w'.cell? ⟨gs, f + i * 3 + 1, none⟩ = some (.int .i64 o.id) ∧ w'.cell? ⟨gs, f + i * 3 + 2, none⟩ = some (.slice o.p o.n o.c)) ∧ Hid ((er ≠ 0 ∧ O1 w w' B gb (.slice p m cc) m T) ∨ (er = 0 ∧ ∃ g', PG w w' gb g' ∧ Th g' (T ++ [o.id]) ∧ Ac g' ∧ IRow B w' (.slice p m cc) T ∧ B ≤ w'.heap.size))) := fun W e => by
          subst e
          have hgd : Gr wr.drew gb g := hg.gr.at rfl
          have hgp : PG w wr.drew gb g := ⟨hgd, hg.bl.drew, hg.nb⟩
          refine (add_any hgd o.id o.p o.n o.c o.ps k1 (k2.below hgp.bl) (by omega)).mono ?_
          rintro e w' ⟨a, er, rfl, g', r1, r2, r3⟩
          have hP := hgp.kp r3 r2
          have hR : IRow B w' (.slice p m cc) T := irow_gb (w := wr.drew) (H1.out.r.keep fun _ _ => rfl) hgd r3
          have hsz : B ≤ w'.heap.size := Nat.le_trans H1.out.b.2.2 r3.size
          refine ⟨a, er, rfl, HC.out w' hP.bl, ?_⟩
          rcases th_add hT hA r1 with ⟨q1, q2, q3⟩ | ⟨q1, q2⟩
          · exact .inr ⟨q1, g', hP, q2, q3, hR, hsz⟩
          · rw [q2] at hP
            exact .inl ⟨q1, ⟨g, hP, hT, hA⟩, hR, H1.out.n, H1.out.b.1, H1.out.b.2.1, hsz⟩
        have zz : wr.cell? ⟨gs, f + i * 3 + 1, none⟩ = some (.int .i64 o.id) ∧ wr.cell? ⟨gs, f + i * 3 + 2, none⟩ = some (.slice o.p o.n o.c) := ⟨s1, s2⟩
        have hbb := H1.out.b
        have HBB : Hid (gb < B ∧ w.heap.size ≤ B ∧ m = T.length) := ⟨hbb.1, hbb.2.1, H1.out.n⟩
        clear hk ho hg hT hA hbl k1 k2 hbb H1
        go_upto_region 9 with fail
        clear s0
        go_region_held3 (fun w' : World => w'.cell? ⟨gs, f + i * 3 + 1, none⟩ = some (.int .i64 o.id) ∧ w'.cell? ⟨gs, f + i * 3 + 2, none⟩ = some (.slice o.p o.n o.c)) (first | (with_reducible assumption) | (with_reducible exact z3) | (with_reducible exact zz) | (exact zz) | go_keep) (first | (go_at_call 15; refine (H15.out _ rfl).mono ?_; rintro e w4 ⟨a, er, rfl, z3, h4⟩))
        all_goals
          obtain ⟨y1, y2⟩ := z3
          clear H15 zz
          rcases h4.out with ⟨q1, q2⟩ | ⟨rfl, g', q2, q3, q4, q5, q6⟩
          · have e1 : (er == 0) = false := by simpa using q1
            have HN : Hid (O1 w w4 B gb (.slice p m cc) m T) := q2
            clear q1 q2 h4 y2
            go_wp2_with fail
            refine ⟨⟨i + 1, p, m, cc, T, rfl, by simp, by omega, hm1, HN.out⟩, ?_⟩
            simp [intOf]
            omega
          · have HN : Hid (PG w w4 gb g' ∧ Th g' (T ++ [o.id]) ∧ Ac g' ∧ IRow B w4 (.slice p m cc) T ∧ B ≤ w4.heap.size) := ⟨q2, q3, q4, q5, q6⟩
            have hl9 := q3.len
            have hm3 : m + 1 ≤ 100 := by have := HBB.out.2.2; simp at hl9; omega
            clear q2 q3 q4 q5 q6 h4 y2 hl9
            have HO : Hid (IRow B (w4.alloc (.cells #[.int .i64 o.id] 2)) (.slice p m cc) T) := HN.out.2.2.2.1.below ((Below.refl _ _).alloc (Nat.le_refl _) _)
            have HV : Hid ((w4.alloc (.cells #[.int .i64 o.id] 2)).cell? ⟨w4.heap.size, 0, none⟩ = some (.int .i64 o.id)) := by show World.cell? _ _ = _; rw [cell_of new0]; rfl
            have HB4 : Hid (Below B w4 (w4.alloc (.cells #[.int .i64 o.id] 2)) ∧ B ≤ (w4.alloc (.cells #[.int .i64 o.id] 2)).heap.size) := ⟨(Below.refl _ _).alloc HN.out.2.2.2.2 _, by have := HN.out.2.2.2.2; simp; omega⟩
            go_wp2_with (at_builtin; refine append_one (wr := w4.alloc (.cells #[.int .i64 o.id] 2)) (B := B) rfl _ _ rfl p m cc T o.id rfl HO.out HB4.out.2 w4.heap.size 1 rfl HV.out (by omega) ?_; intro g3 c3 w7 R7 hB7)
            have hb7 : Below B w4 w7 := HB4.out.1.trans hB7
            refine ⟨⟨i + 1, _, m + 1, c3, T ++ [o.id], rfl, by simp, by omega, hm3, ⟨g', ⟨HN.out.1.gr.below hb7 HBB.out.1, HN.out.1.bl.trans (hb7.mono HBB.out.2.1), HN.out.1.nb⟩, HN.out.2.1, HN.out.2.2.1⟩, R7, by rw [List.length_append, ← HBB.out.2.2]; rfl, HBB.out.1, HBB.out.2.1, Nat.le_trans HN.out.2.2.2.2 hb7.size⟩, ?_⟩
            simp [intOf]
            omega
      · have hk' : (o.kd == 1) = false := by simpa using hk
        clear hk ho hg hT hA hbl k1 k2 HC s1 s2
        go_wp2_with fail
        refine ⟨⟨i + 1, p, m, cc, T, rfl, by simp, by omega, hm1, H1.out⟩, ?_⟩
        simp [intOf]
        omega
    · have hi' : ¬ (i : Int) < (n : Int) := by omega
      obtain ⟨g, hg, hT, hA⟩ := H1.out.g
      have H2 : Hid (O2 w wr wr.heap.size gb g (.slice p m cc) m T (.slice none 0 0) 0 [] ∧ 0 ≤ 0) := ⟨⟨hg, hT, hA, H1.out.r.mono H1.out.b.2.1, H1.out.n, fun k e => H1.out.r.lt e, IRow.nil _ _, rfl, ⟨hg.gr.lt, hg.bl.size, Nat.le_refl _⟩, List.nodup_nil, (fun y hy => by cases hy)⟩, Nat.le_refl _⟩
      clear hg hT hA H1 HS HPS
      obtain ⟨B2, hB2⟩ : ∃ B2, B2 = wr.heap.size := ⟨_, rfl⟩
      rw [← hB2] at H2
      clear hB2
      go_wp2_with fail
      go_loopw [8, 9] (fun t8 t9 wr => ∃ (tn : Nat) (p2 : Option Addr) (m2 c2 : Nat) (O : List Int), t8 = .slice p2 m2 c2 ∧ t9 = .int .i64 tn ∧ tn ≤ m + 1 ∧ m2 ≤ 100 ∧ Hid (O2 w wr B2 gb g (.slice p m cc) m T (.slice p2 m2 c2) m2 O ∧ (tn ≤ m2 ∨ m2 = m))) (fun _ t9 _ => m + 1 - (intOf t9).toNat)
      case atStart => exact ⟨0, none, 0, 0, [], rfl, rfl, Nat.zero_le _, Nat.zero_le _, H2.out.1, .inl (Nat.le_refl _)⟩
      case round =>
        clear H2
        obtain ⟨tn, p2, m2, c2, O0, rfl, rfl, htn, hm2, H2⟩ := hrel
        by_cases ht : tn ≤ m
        · have ht' : (tn : Int) ≤ (m : Int) := by omega
          obtain ⟨x0, hx0⟩ := next_one H2.out.1.t H2.out.1.a H2.out.1.d H2.out.1.s
          have H3 : Hid (O2 w wr B2 gb g (.slice p m cc) m T (.slice p2 m2 c2) m2 O0 ∧ Tn g T O0 O0 x0 0) := ⟨H2.out.1, ⟨[], by simp⟩, hx0, fun _ j hj => absurd hj (by omega)⟩
          have HP0 : Hid (m2 = O0.length ∧ m = T.length ∧ (tn ≤ m2 ∨ m2 = m)) := ⟨H2.out.1.n2, H2.out.1.n, H2.out.2⟩
          clear hx0 H2
          go_wp2_with fail
          go_loopw [8, 10] (fun t8 t10 wr => ∃ (i : Nat) (p3 : Option Addr) (m3 c3 : Nat) (O : List Int), t8 = .slice p3 m3 c3 ∧ t10 = .int .i64 i ∧ i ≤ m ∧ m3 ≤ 100 ∧ Hid (O2 w wr B2 gb g (.slice p m cc) m T (.slice p3 m3 c3) m3 O ∧ Tn g T O0 O x0 i)) (fun _ t10 _ => m - (intOf t10).toNat)
          case atStart => exact ⟨0, p2, m2, c2, O0, rfl, rfl, Nat.zero_le _, hm2, H3.out⟩
          case round =>
            clear H3
            obtain ⟨i, p3, m3, c3, O, rfl, rfl, him, hm3, H3⟩ := hrel
            by_cases hi3 : i < m
            · have hi3' : (i : Int) < (m : Int) := by omega
              obtain ⟨x, hx⟩ : ∃ x, T[i]? = some x := ⟨_, List.getElem?_eq_getElem (by have := H3.out.1.n; omega)⟩
              obtain ⟨ga, go, e0, cx⟩ := H3.out.1.r.ai i x hx
              subst e0
              obtain ⟨nx, rfl, hx1, hx2, hx3⟩ := (H3.out.1.t.m x).1 (List.mem_of_getElem? hx)
              have H16 : Hid (Calls Try.prog 16 #[.pointer (some ⟨gb, 0, none⟩), .int .i64 nx] wr fun e w' => ∃ (p4 : Option Addr) (n4 c4 : Nat), e = .returned (.tuple #[.slice p4 n4 c4, .int .i64 0]) ∧ n4 ≤ 101 ∧ w'.cell? ⟨ga, go + i, none⟩ = some (.int .i64 nx) ∧ Hid (O2 w w' B2 gb g (.slice (some ⟨ga, go, none⟩) m cc) m T (.slice p3 m3 c3) m3 O ∧ n4 = (lsI (g.ps nx)).length ∧ IRow 0 w' (.slice p4 n4 c4) (lsI (g.ps nx)))) := by
                refine (par_any H3.out.1.pg.gr nx).mono ?_
                rintro e w' ⟨p4, n4, c4, er, rfl, hn4, E, g', r1, r2, r3, r4, r5⟩
                obtain ⟨rfl, rfl, rfl, _⟩ := r1.uniq (.ok nx rfl hx1 hx2 hx3)
                have hO := H3.out.1.kp r5 r4
                obtain ⟨g9, o9, e9, cx9⟩ := hO.r.ai i nx hx
                cases e9
                exact ⟨p4, n4, c4, rfl, hn4, cx9, hO, r2, r3.mono (Nat.zero_le _)⟩
              have HTN : Hid (Tn g T O0 O x0 i ∧ T[i]? = some (nx : Int) ∧ nx < 101) := ⟨H3.out.2, hx, hx2⟩
              have HIn : Hid (∀ W, O2 w W B2 gb g (.slice (some ⟨ga, go, none⟩) m cc) m T (.slice p3 m3 c3) m3 O → ∀ y : Int, (Calls Try.prog 17 #[.slice p3 m3 c3, .int .i64 y] W fun e w' => e = .returned (.bool (inB O y)) ∧ w' = W) ∧ (Calls Try.prog 17 #[.slice (some ⟨ga, go, none⟩) m cc, .int .i64 y] W fun e w' => e = .returned (.bool (inB T y)) ∧ w' = W)) := fun W hW y => ⟨in_any W p3 m3 c3 O y hW.n2 hW.r2.ai (by omega), in_any W _ m cc T y hW.n hW.r.ai (by omega)⟩
              clear hx hx1 hx2 hx3 H3
              obtain ⟨ob, hob⟩ : ∃ ob, ob = inB O (nx : Int) := ⟨_, rfl⟩
              have HOB : Hid (ob = inB O (nx : Int)) := hob
              clear hob
              go_upto_region 20 with (go_at_call 16; refine H16.out.mono ?_; rintro e w4 ⟨p4, n4, c4, rfl, hn4, cx4, h4⟩)
              clear cx H16
              have H17 : Hid (Calls Try.prog 17 #[.slice p3 m3 c3, .int .i64 nx] w4 fun e w' => e = .returned (.bool ob) ∧ w' = w4) := by
                rw [HOB.out]
                exact (HIn.out w4 h4.out.1 nx).1
              go_upto_region 21 with (go_at_call 17; refine H17.out.mono ?_; rintro e w5 ⟨rfl, rfl⟩)
              clear H17 cx4
              have HL0 : Hid (((!ob) = true → (nx : Int) ∉ O) ∧ (nx = x0 → O0.length < T.length → (x0 : Int) ∉ O → (!ob) = true)) := by
                refine ⟨fun q => ?_, fun _ _ q => ?_⟩
                · have : ob = false := by simpa using q
                  rw [HOB.out] at this
                  exact inB_no.1 this
                · have e := HOB.out
                  rename_i e1 _
                  rw [e1, inB_no.2 q] at e
                  rw [e]
                  rfl
              have HQ : Hid (O2 w w5 B2 gb g (.slice (some ⟨ga, go, none⟩) m cc) m T (.slice p3 m3 c3) m3 O ∧ n4 = (lsI (g.ps nx)).length ∧ IRow 0 w5 (.slice p4 n4 c4) (lsI (g.ps nx))) := h4.out
              clear h4 HOB
              generalize (!ob) = ok0 at *
              go_wp2_with fail
              go_loopw [13, 14] (fun t13 t14 wx => ∃ (k : Nat) (okv : Bool), t13 = .bool okv ∧ t14 = .int .i64 k ∧ k ≤ n4 ∧ wx = w5 ∧ Hid ((okv = true → (nx : Int) ∉ O) ∧ (nx = x0 → O0.length < T.length → (x0 : Int) ∉ O → okv = true))) (fun _ t14 _ => n4 - (intOf t14).toNat)
              case atStart => exact ⟨0, ok0, rfl, rfl, Nat.zero_le _, rfl, HL0.out⟩
              case round =>
                clear HL0
                obtain ⟨k, okv, rfl, rfl, hkn, rfl, HK⟩ := hrel
                by_cases hk4 : k < n4
                · have hk4' : (k : Int) < (n4 : Int) := by omega
                  obtain ⟨y, hy⟩ : ∃ y, (lsI (g.ps nx))[k]? = some y := ⟨_, List.getElem?_eq_getElem (by have := HQ.out.2.1; omega)⟩
                  obtain ⟨gy, oy, e9, cy⟩ := HQ.out.2.2.ai k y hy
                  subst e9
                  obtain ⟨ny, rfl, hy1, hy2⟩ := mem_lsI.1 (List.mem_of_getElem? hy)
                  obtain ⟨b1, hb1⟩ : ∃ b1, b1 = inB O (ny : Int) := ⟨_, rfl⟩
                  obtain ⟨b2, hb2⟩ : ∃ b2, b2 = inB T (ny : Int) := ⟨_, rfl⟩
                  have HC1 : Hid (Calls Try.prog 17 #[.slice p3 m3 c3, .int .i64 ny] wr fun e w' => e = .returned (.bool b1) ∧ w' = wr) := by rw [hb1]; exact (HIn.out wr HQ.out.1 ny).1
                  have HC2 : Hid (Calls Try.prog 17 #[.slice (some ⟨ga, go, none⟩) m cc, .int .i64 ny] wr fun e w' => e = .returned (.bool b2) ∧ w' = wr) := by rw [hb2]; exact (HIn.out wr HQ.out.1 ny).2
                  have HNX : Hid (((okv && (b1 || !b2)) = true → (nx : Int) ∉ O) ∧ (nx = x0 → O0.length < T.length → (x0 : Int) ∉ O → (okv && (b1 || !b2)) = true)) := by
                    refine ⟨fun q => HK.out.1 (by simp at q; exact q.1), fun e1 e2 e3 => ?_⟩
                    have h1 := HK.out.2 e1 e2 e3
                    rw [h1]
                    cases hb : b2
                    · simp
                    · have hyT : (ny : Int) ∈ T := inB_iff.1 (by rw [← hb2]; exact hb)
                      have hyO := (HTN.out.1.x e2).2.2 ny hy1 (by rw [← e1]; exact hy2) hyT
                      obtain ⟨D, hD⟩ := HTN.out.1.p
                      have : b1 = true := by rw [hb1, inB_iff, hD]; exact List.mem_append_left _ hyO
                      rw [this]
                      rfl
                  clear hb1 hb2 hy hy1 hy2 HK
                  cases okv
                  · go_wp2_with fail
                    refine ⟨⟨k + 1, false, rfl, by simp, by omega, by first | rfl | trivial, HNX.out⟩, ?_⟩
                    simp [intOf]
                    omega
                  · cases b1
                    · cases b2
                      · go_wp2_with (first | (go_at_call_of 17 #[Value.slice p3 m3 c3, Value.int IntKind.i64 (ny : Int)]; refine HC1.out.mono ?_; rintro e w6 ⟨rfl, rfl⟩) | (go_at_call_of 17 #[Value.slice (some ⟨ga, go, none⟩) m cc, Value.int IntKind.i64 (ny : Int)]; refine HC2.out.mono ?_; rintro e w6 ⟨rfl, rfl⟩))
                        refine ⟨⟨k + 1, true, rfl, by simp, by omega, by first | rfl | trivial, HNX.out⟩, ?_⟩
                        simp [intOf]
                        omega
                      · go_wp2_with (first | (go_at_call_of 17 #[Value.slice p3 m3 c3, Value.int IntKind.i64 (ny : Int)]; refine HC1.out.mono ?_; rintro e w6 ⟨rfl, rfl⟩) | (go_at_call_of 17 #[Value.slice (some ⟨ga, go, none⟩) m cc, Value.int IntKind.i64 (ny : Int)]; refine HC2.out.mono ?_; rintro e w6 ⟨rfl, rfl⟩))
                        refine ⟨⟨k + 1, false, rfl, by simp, by omega, by first | rfl | trivial, HNX.out⟩, ?_⟩
                        simp [intOf]
                        omega
                    · go_wp2_with (go_at_call 17; refine HC1.out.mono ?_; rintro e w6 ⟨rfl, rfl⟩)
                      refine ⟨⟨k + 1, true, rfl, by simp, by omega, by first | rfl | trivial, HNX.out⟩, ?_⟩
                      simp [intOf]
                      omega
                · have hk4' : ¬ (k : Int) < (n4 : Int) := by omega
                  cases okv
                  · have HN : Hid (O2 w wr B2 gb g (.slice (some ⟨ga, go, none⟩) m cc) m T (.slice p3 m3 c3) m3 O ∧ Tn g T O0 O x0 (i + 1)) := by
                      refine ⟨HQ.out.1, HTN.out.1.p, HTN.out.1.x, fun hl j hj hjx => ?_⟩
                      by_cases e : j = i
                      · subst e
                        have := HTN.out.2.1
                        rw [hjx] at this
                        have e1 : x0 = nx := by simp at this; omega
                        cases hb : inB O (x0 : Int)
                        · have := HK.out.2 e1.symm hl (inB_no.1 hb)
                          cases this
                        · exact inB_iff.1 hb
                      · exact HTN.out.1.i hl j (by omega) hjx
                    clear HK
                    go_wp2_with fail
                    refine ⟨⟨i + 1, p3, m3, c3, O, rfl, by simp, by omega, hm3, HN.out⟩, ?_⟩
                    simp [intOf]
                    omega
                  · obtain ⟨g9, o9, e9, cx⟩ := HQ.out.1.r.ai i nx HTN.out.2.1
                    cases e9
                    have HNO : Hid ((nx : Int) ∉ O) := HK.out.1 rfl
                    have hl3 : m3 + 1 ≤ 100 := by
                      have h1 := sub_len (nodup_snoc HQ.out.1.d HNO.out) HQ.out.1.t.d HQ.out.1.t.nums fun y hy => by
                        rcases List.mem_append.1 hy with q | q
                        · exact HQ.out.1.s y q
                        · simp at q; rw [q]; exact List.mem_of_getElem? HTN.out.2.1
                      have h2 := HQ.out.1.t.len
                      have h3 := HQ.out.1.n2
                      simp at h1
                      omega
                    have hbb := HQ.out.1.b
                    have HBB : Hid (B2 ≤ wr.heap.size) := hbb.2.2
                    have HO : Hid (IRow B2 (wr.alloc (.cells #[.int .i64 nx] 2)) (.slice p3 m3 c3) O) := HQ.out.1.r2.below ((Below.refl _ _).alloc (Nat.le_refl _) _)
                    have HV : Hid ((wr.alloc (.cells #[.int .i64 nx] 2)).cell? ⟨wr.heap.size, 0, none⟩ = some (.int .i64 nx)) := by show World.cell? _ _ = _; rw [cell_of new0]; rfl
                    have HB4 : Hid (Below B2 wr (wr.alloc (.cells #[.int .i64 nx] 2)) ∧ B2 ≤ (wr.alloc (.cells #[.int .i64 nx] 2)).heap.size) := ⟨(Below.refl _ _).alloc HBB.out _, by have := HBB.out; simp; omega⟩
                    clear hbb HK
                    go_wp2_with (at_builtin; refine append_one (wr := wr.alloc (.cells #[.int .i64 nx] 2)) (B := B2) rfl _ _ rfl p3 m3 c3 O nx rfl HO.out HB4.out.2 wr.heap.size 1 rfl HV.out (by omega) ?_; intro g7 c7 w7 R7 hB7)
                    have hb7 : Below B2 wr w7 := HB4.out.1.trans hB7
                    refine ⟨⟨i + 1, _, m3 + 1, c7, O ++ [(nx : Int)], rfl, by simp, by omega, hl3, HQ.out.1.put hb7 R7 HNO.out (List.mem_of_getElem? HTN.out.2.1), ?_, HTN.out.1.x, fun hl j hj hjx => ?_⟩, ?_⟩
                    · obtain ⟨D, hD⟩ := HTN.out.1.p
                      exact ⟨D ++ [(nx : Int)], by rw [hD, List.append_assoc]⟩
                    · by_cases e : j = i
                      · subst e
                        have := HTN.out.2.1
                        rw [hjx] at this
                        simp at this
                        rw [List.mem_append]
                        exact .inr (by simp; omega)
                      · exact List.mem_append_left _ (HTN.out.1.i hl j (by omega) hjx)
                    · simp [intOf]
                      omega
            · have hi3' : ¬ (i : Int) < (m : Int) := by omega
              have HN : Hid (O2 w wr B2 gb g (.slice p m cc) m T (.slice p3 m3 c3) m3 O ∧ (tn + 1 ≤ m3 ∨ m3 = m)) := by
                refine ⟨H3.out.1, ?_⟩
                obtain ⟨D, hD⟩ := H3.out.2.p
                have hl := H3.out.1.len
                have hn2 := H3.out.1.n2
                have h0 := HP0.out
                rw [hD, List.length_append] at hn2
                by_cases hlt : O0.length < T.length
                · obtain ⟨hx1, hx2, _⟩ := H3.out.2.x hlt
                  obtain ⟨j, hj⟩ := List.getElem?_of_mem hx1
                  have hx3 := H3.out.2.i hlt j (by have := (List.getElem?_eq_some_iff.1 hj).1; omega) hj
                  rw [hD] at hx3
                  rcases List.mem_append.1 hx3 with q | q
                  · exact absurd q hx2
                  · have := List.length_pos_of_mem q
                    rcases h0.2.2 with r | r
                    · exact .inl (by omega)
                    · omega
                · exact .inr (by omega)
              clear H3 HP0
              go_wp2_with fail
              refine ⟨⟨tn + 1, p3, m3, c3, O, rfl, by simp, by omega, hm3, HN.out⟩, ?_⟩
              simp [intOf]
              omega
        · have ht' : ¬ (tn : Int) ≤ (m : Int) := by omega
          have HX : Hid (m2 = m ∧ Below w.heap.size w wr) := by
            have := H2.out.1.len
            have h2 := H2.out.2
            exact ⟨by omega, H2.out.1.pg.bl⟩
          have hmm : ((m2 : Int) == (m : Int)) = true := by have := HX.out.1; simp [this]
          clear H2
          go_wp2_with fail
          go_ret
          exact ⟨by rw [HX.out.1]; simp, HX.out.2⟩
end Go.Proofs.Ytodldfgoieikcaa
