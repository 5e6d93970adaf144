/-
  PlaceHolds' law.
-/
import Derived.Test.YtclhnclhocekkaaMt
import Derived.Test.YtclhnclhocekkaaVe
namespace Go.Proofs.Ytclhnclhocekkaa
open Go.RowKit Go.Maps Go.WideMaps Go.Sort

/-- the tasks of a node -/
def sel : List (V × List UInt8) → List UInt8 → List V
  | [], _ => []
  | x :: l, nm => if x.2 = nm then x.1 :: sel l nm else sel l nm
theorem sel_append (nm : List UInt8) : ∀ l m : List (V × List UInt8), sel (l ++ m) nm = sel l nm ++ sel m nm
  | [], m => rfl
  | x :: l, m => by
    show (if x.2 = nm then x.1 :: sel (l ++ m) nm else sel (l ++ m) nm) = (if x.2 = nm then x.1 :: sel l nm else sel l nm) ++ _
    rw [sel_append nm l m]
    split <;> rfl
theorem sel_len (nm : List UInt8) : ∀ l : List (V × List UInt8), (sel l nm).length ≤ l.length
  | [] => Nat.le_refl _
  | x :: l => by
    show (if x.2 = nm then x.1 :: sel l nm else sel l nm).length ≤ _
    have := sel_len nm l
    split
    · rw [List.length_cons, List.length_cons]; omega
    · rw [List.length_cons]; omega
theorem sel_ok {nm : List UInt8} : ∀ {l : List (V × List UInt8)}, (∀ x ∈ l, x.1.ok = true) → allOk (sel l nm) = true
  | [], _ => rfl
  | x :: l, h => by
    have ih := sel_ok (nm := nm) (l := l) fun y hy => h y (List.mem_cons_of_mem _ hy)
    show allOk (if x.2 = nm then x.1 :: sel l nm else sel l nm) = true
    split
    · unfold allOk at *
      rw [List.all_cons, h x (List.mem_cons_self ..), ih]
      rfl
    · exact ih
theorem sum_sel {nm : List UInt8} : ∀ {l : List (V × List UInt8)} (acc : V), acc.ok = true → (∀ x ∈ l, x.1.ok = true) → (acc.add (tot l nm)).ok = true → sumF acc (sel l nm) = (acc.add (tot l nm), 0)
  | [], acc, _, _, _ => by show (acc, 0) = (acc.add V.nil, 0); rw [add_nil]
  | x :: l, acc, ha, h, ht => by
    have hl : ∀ y ∈ l, y.1.ok = true := fun y hy => h y (List.mem_cons_of_mem _ hy)
    have ih := fun acc => sum_sel (nm := nm) (l := l) acc
    show sumF acc (if x.2 = nm then x.1 :: sel l nm else sel l nm) = (acc.add (if x.2 = nm then x.1.add (tot l nm) else tot l nm), 0)
    have ht' : (acc.add (if x.2 = nm then x.1.add (tot l nm) else tot l nm)).ok = true := ht
    by_cases q : x.2 = nm
    · rw [if_pos q] at ht' ⊢
      rw [if_pos q]
      have hm := add_mid ha (ok_nn (h x (List.mem_cons_self ..))) (tot_nn nm hl) ht'
      show (if (acc.add x.1).ok then sumF (acc.add x.1) (sel l nm) else _) = _
      rw [if_pos hm, ih (acc.add x.1) hm hl (by rw [add_add]; exact ht'), add_add]
    · rw [if_neg q] at ht' ⊢
      rw [if_neg q]
      exact ih acc ha hl ht'
theorem room_ok {s t : V} (hs : s.ok = true) (ht : t.nn) (h : (s.sub t).ok = true) : t.ok = true ∧ ftV t s = true := by
  have h1 := okV hs
  have h2 := okV h
  unfold V.nn at ht
  unfold V.sub at h2
  simp only at h2
  refine ⟨ok_mk (by omega), ?_⟩
  unfold ftV ft
  simp only [Bool.and_eq_true, decide_eq_true_eq]
  omega
theorem sum_room {nm : List UInt8} {l : List (V × List UInt8)} {s : V} (hs : s.ok = true) (hl : ∀ x ∈ l, x.1.ok = true) (h : (s.sub (tot l nm)).ok = true) : sumR (sel l nm) = (tot l nm, 0) ∧ ftV (tot l nm) s = true := by
  obtain ⟨h1, h2⟩ := room_ok hs (tot_nn nm hl) h
  refine ⟨?_, h2⟩
  unfold sumR
  rw [if_pos (sel_ok hl), sum_sel V.nil rfl hl (by rw [nil_add]; exact h1), nil_add]
/-! ### how many are taken -/
def inB (S : List Sl) (x : List UInt8) : Bool := S.any fun s => s.nm == x
theorem count_or {α : Type} (p q r : α → Bool) : ∀ (l : List α), (∀ x ∈ l, r x = (p x || q x) ∧ ¬ (p x = true ∧ q x = true)) → l.countP r = l.countP p + l.countP q
  | [], _ => rfl
  | x :: l, h => by
    have ih := count_or p q r l fun y hy => h y (List.mem_cons_of_mem _ hy)
    obtain ⟨h1, h2⟩ := h x (List.mem_cons_self ..)
    rw [List.countP_cons, List.countP_cons, List.countP_cons, ih, h1]
    cases hp : p x <;> cases hq : q x
    · simp
    · simp; omega
    · simp; omega
    · exact absurd ⟨hp, hq⟩ h2
theorem count_step {S : List Sl} {i : Nat} {s : Sl} (hN : Nod S) (hs : S[i]? = some s) (N : List (List UInt8)) : N.countP (inB (S.take (i + 1))) = N.countP (inB (S.take i)) + N.countP (fun x => x == s.nm) := by
  refine count_or _ _ _ N fun x _ => ⟨?_, fun ⟨h1, h2⟩ => ?_⟩
  · unfold inB
    rw [take_next hs, List.any_append]
    congr 1
    rw [List.any_cons, List.any_nil, Bool.or_false]
    by_cases e : s.nm = x
    · rw [e]
    · rw [beq_eq_false_iff_ne.2 e, beq_eq_false_iff_ne.2 (Ne.symm e)]
  · unfold inB at h1
    obtain ⟨a, ha, e⟩ := List.any_eq_true.1 h1
    have e2 : x = s.nm := by simpa using h2
    have e1 : a.nm = x := by simpa using e
    obtain ⟨j, hj, rfl⟩ := List.getElem_of_mem ha
    rw [List.length_take] at hj
    rw [List.getElem_take] at e1
    exact nod_ne hN (List.getElem?_eq_getElem _) hs (by omega) (e1.trans e2)
theorem count_all {S : List Sl} {N : List (List UInt8)} (h : knB N S = true) : N.countP (inB S) = N.length := by
  rw [List.countP_eq_length]
  intro x hx
  have := List.all_eq_true.1 h x hx
  obtain ⟨k, hk⟩ := Option.isSome_iff_exists.1 this
  obtain ⟨a, ha, e⟩ := plc_some hk
  exact List.any_eq_true.2 ⟨a, List.mem_of_getElem? ha, by simpa using e⟩
theorem grow_lies {b : Nat} {w : World} {p : Option Addr} {n c : Nat} {L : List V} (h : GRow 41 4 vC b w (.slice p n c) L) : Lies w p L := by
  cases L with
  | nil => exact .inl rfl
  | cons a r =>
    obtain ⟨g, e, _⟩ := h.at vC_len (i := 0) rfl
    refine .inr ⟨g, 0, e, fun i v hv => ?_⟩
    obtain ⟨g', e', hc⟩ := h.at vC_len hv
    rw [e] at e'
    cases e'
    rw [Nat.zero_add]
    exact ⟨hc 0 _ rfl, hc 1 _ rfl, hc 2 _ rfl, hc 3 _ rfl⟩
set_option maxHeartbeats 8000000 in
set_option maxRecDepth 100000 in
theorem holds_law (q r : Option Addr) (n c m d : Nat) (T : List V) (S : List Sl) (w : World) (hA : Arg w q r n c m d T S) :
    Calls Try.prog 5 #[.slice q n c, .slice r m d] w fun e w' => e = .returned (.bool true) ∧ Below w.heap.size w w' := by
  have H9 : Hid (∀ w, Calls Try.prog 9 #[] w fun e w' => e = .returned (.bool true) ∧ Hid (Below w.heap.size w w')) := fun w => awake_any w
  have H10 : Hid (∀ w, Calls Try.prog 10 #[.slice q n c, .slice r m d] w fun e w' => e = .returned (.bool (fewB n m)) ∧ Hid (Below w.heap.size w w')) := fun w => few_any q r n c m d w
  have HA : Hid (Arg w q r n c m d T S) := hA
  clear hA
  cases hf : fewB n m with
  | false =>
    rw [hf] at H10
    go_enter Try.func5, Try.ntmps5
    go_upto_region 2 with (first | (go_at_call 9; refine (H9.out _).mono ?_; rintro e w1 ⟨rfl, b1⟩) | (go_at_call 10; refine (H10.out _).mono ?_; rintro e w2 ⟨rfl, b2⟩))
    go_wp2_with (go_at_call 9; refine (H9.out _).mono ?_; rintro e w3 ⟨rfl, b3⟩)
    go_ret
    exact ⟨rfl, below_from (below_from b1.out b2.out b1.out.size) b3.out (by have := b1.out.size; have := b2.out.size; omega)⟩
  | true =>
    obtain ⟨n1, m1⟩ := few_le hf
    rw [hf] at H10
    clear hf
    go_enter Try.func5, Try.ntmps5
    go_upto_region 3 with (first | (go_at_call 9; refine (H9.out _).mono ?_; rintro e w1 ⟨rfl, b1⟩) | (go_at_call 10; refine (H10.out _).mono ?_; rintro e w2 ⟨rfl, b2⟩))
    have A2 : Hid (Arg w2 q r n c m d T S ∧ Below w.heap.size w w2) := ⟨(HA.out.below b1.out).below b2.out, below_from b1.out b2.out b1.out.size⟩
    clear b1 b2 H9 H10 HA
    have H11 : Hid (Calls Try.prog 11 #[.slice q n c, .slice r m d] w2 (FitP w2 T S)) := fit_any T S q r n c m d w2 A2.out.1.t A2.out.1.s A2.out.1.h A2.out.1.d A2.out.1.n A2.out.1.m (by omega) (by omega)
    go_upto_region 4 with (go_at_call 11; refine H11.out.mono ?_; rintro e w3 ⟨qn, kn, cn, rfl, hkn, -, h3⟩)
    have A3 : Hid (Arg w3 q r n c m d T S ∧ Below w.heap.size w w3 ∧ NA w3 qn (fitR T S).2) := ⟨A2.out.1.below h3.out.2, below_from A2.out.2 h3.out.2 A2.out.2.size, h3.out.1⟩
    clear A2 h3 H11
    by_cases he : (fitR T S).1 = 0
    · obtain ⟨hc, hl, hk, hr⟩ := fit_room he
      obtain ⟨k1, k2, k3, -, -⟩ := chk_ok hc
      rw [he, show (((0 : Nat) : Int)) = 0 from rfl]
      clear he
      generalize (fitR T S).2 = N at *
      obtain rfl : kn = n := by have := A3.out.1.n; omega
      have HR : Hid (N.length = kn ∧ knB N S = true ∧ (∀ s ∈ S, (s.v.sub (tot (T.zip N) s.nm)).ok = true) ∧ allOk T = true ∧ allS S = true ∧ Nod S) := ⟨hkn, hk, hr, k1, k2, k3⟩
      clear hc hl hk hr k1 k2 k3 hkn
      go_wp2_with fail
      go_loopw [7, 8] (fun y x wr => ∃ i tk : Nat, y = .int .i64 tk ∧ x = .int .i64 i ∧ i ≤ m ∧ Hid (tk = N.countP (inB (S.take i)) ∧ Below w3.heap.size w3 wr)) (fun _ x _ => m - (intOf x).toNat)
      case atStart => exact ⟨0, 0, rfl, rfl, Nat.zero_le _, by rw [List.take_zero]; exact (List.countP_eq_zero.2 fun x _ => by simp [inB]).symm, Below.refl _ _⟩
      case round =>
        obtain ⟨i, tk, rfl, rfl, hi, HI⟩ := hrel
        have htk : tk ≤ 100 := by
          have h1 := HI.out.1
          have h2 := List.countP_le_length (p := inB (S.take i)) (l := N)
          have h3 := HR.out.1
          omega
        by_cases h0 : i < m
        · have hlt' : (i : Int) < (m : Int) := by omega
          have hd : decide ((i : Int) < (m : Int)) = true := decide_eq_true hlt'
          obtain ⟨s, hs⟩ : ∃ s, S[i]? = some s := ⟨_, List.getElem?_eq_getElem (by have := A3.out.1.m; omega)⟩
          have HS : Hid (S[i]? = some s) := hs
          have HTK : Hid (tk = N.countP (inB (S.take i))) := HI.out.1
          have BW : Hid (Below w3.heap.size w3 wr) := HI.out.2
          clear HI hs
          go_wp2_with fail
          generalize wr = V2 at *
          go_loopw [9, 7, 10] (fun z y x wr => ∃ (j tj ll : Nat) (p : Option Addr) (cc : Nat), z = .slice p ll cc ∧ y = .int .i64 tj ∧ x = .int .i64 j ∧ j ≤ kn ∧ ll ≤ j ∧ tj ≤ tk + j ∧ Hid (tj = tk + (N.take j).countP (fun x => x == s.nm) ∧ GRow 41 4 vC V2.heap.size wr (.slice p ll cc) (sel ((T.zip N).take j) s.nm) ∧ Below V2.heap.size V2 wr)) (fun _ _ x _ => kn - (intOf x).toNat)
          case atStart => exact ⟨0, tk, 0, none, 0, rfl, rfl, rfl, Nat.zero_le _, Nat.le_refl _, Nat.le_refl _, by simp, by rw [List.take_zero]; exact GRow.nil _ _ _ _ _, Below.refl _ _⟩
          case round =>
            obtain ⟨j, tj, ll, p, cc, rfl, rfl, rfl, hj, hll, htj, HJ⟩ := hrel
            have BW2 : Hid (Below w3.heap.size w3 wr) := below_from BW.out HJ.out.2.2 BW.out.size
            by_cases hjn : j < kn
            · have j1 : (j : Int) < (kn : Int) := by omega
              have j2 : decide ((j : Int) < (kn : Int)) = true := decide_eq_true j1
              obtain ⟨x, hx⟩ : ∃ x, N[j]? = some x := ⟨_, List.getElem?_eq_getElem (by have := HR.out.1; omega)⟩
              obtain ⟨v, hv⟩ : ∃ v, T[j]? = some v := ⟨_, List.getElem?_eq_getElem (by have := A3.out.1.n; omega)⟩
              have hz := zip_at hv hx
              have hct : (N.take (j + 1)).countP (fun x => x == s.nm) = (N.take j).countP (fun x => x == s.nm) + (if x == s.nm then 1 else 0) := by rw [take_next hx, List.countP_append, List.countP_singleton]
              have hsl : sel ((T.zip N).take (j + 1)) s.nm = sel ((T.zip N).take j) s.nm ++ (if x = s.nm then [v] else []) := by rw [take_next hz, sel_append]; rfl
              obtain ⟨gn, on, rfl, xn⟩ := NA.at (A3.out.2.2.below BW2.out) hx
              obtain ⟨g, o, rfl, xs, -⟩ := SA.at (A3.out.1.s.below BW2.out) HS.out
              by_cases e : x = s.nm
              · have HN : Hid (tj + 1 = tk + (N.take (j + 1)).countP (fun x => x == s.nm) ∧ sel ((T.zip N).take (j + 1)) s.nm = sel ((T.zip N).take j) s.nm ++ [v]) := by
                  refine ⟨?_, by rw [hsl, if_pos e]⟩
                  rw [hct, if_pos (by simpa using e), HJ.out.1]
                  omega
                obtain ⟨ga, oa, rfl, x0, x1, x2, x3⟩ := TA.at (A3.out.1.t.below BW2.out) hv
                have KT : Hid (∀ W, Below wr.heap.size wr W → W.cell? ⟨ga, oa + j * 4, none⟩ = some (.int .i64 v.a) ∧ W.cell? ⟨ga, oa + j * 4 + 1, none⟩ = some (.int .i64 v.b) ∧ W.cell? ⟨ga, oa + j * 4 + 2, none⟩ = some (.int .i64 v.c) ∧ W.cell? ⟨ga, oa + j * 4 + 3, none⟩ = some (.int .i64 v.d)) := fun W b => ⟨cell_below x0 b, cell_below x1 b, cell_below x2 b, cell_below x3 b⟩
                clear hx hv hz hct hsl x0 x1 x2 x3
                subst e
                go_upto_region 16 with fail
                go_quiet (fail)
                clear xn xs
                have HJ7 : Hid (GRow 41 4 vC V2.heap.size (wr.drewN nq) (.slice p ll cc) (sel ((T.zip N).take j) s.nm) ∧ Below V2.heap.size V2 (wr.drewN nq)) := ⟨HJ.out.2.1.below (below_drewN (Below.refl _ _) nq), below_drewN HJ.out.2.2 nq⟩
                obtain ⟨x0, x1, x2, x3⟩ := KT.out (wr.drewN nq) (below_drewN (Below.refl _ _) nq)
                clear HJ KT BW2
                generalize wr.drewN nq = W7 at *
                obtain ⟨va, vb, vc, vd⟩ := v
                simp only [] at x0 x1 x2 x3
                have O1 : Hid (GRow 41 4 vC V2.heap.size (W7.alloc (.cells #[.int .i64 va, .int .i64 vb, .int .i64 vc, .int .i64 vd] 41)) (.slice p ll cc) (sel ((T.zip N).take j) s.nm)) := HJ7.out.1.below ((Below.refl _ W7).alloc (Nat.le_refl _) _)
                have Z1 : Hid (V2.heap.size ≤ (W7.alloc (.cells #[.int .i64 va, .int .i64 vb, .int .i64 vc, .int .i64 vd] 41)).heap.size) := by have := HJ7.out.2.size; show _ ≤ _; simp; omega
                have R1 : Hid (RowV (W7.alloc (.cells #[.int .i64 va, .int .i64 vb, .int .i64 vc, .int .i64 vd] 41)) W7.heap.size 0 ([(⟨va, vb, vc, vd⟩ : V)].flatMap vC)) := row_one new0 rfl
                have e9 : Hid (ll + 1 ≤ maxLen) := by show _ ≤ _; unfold maxLen; omega
                have e8 : Hid ((ll + 1) * 32 ≤ 140737488355328) := by show _ ≤ _; omega
                go_upto_region 18 with (at_builtin; refine append_g (B := V2.heap.size) vC_len vC_one Try.underlying22 info41 rfl (by decide) rfl _ _ rfl p ll cc _ rfl O1.out Z1.out W7.heap.size 0 1 1 [⟨va, vb, vc, vd⟩] rfl rfl R1.out e9.out e8.out ?_; intro p3 c3 w8 hr8 hb8)
                have H8 : Hid (GRow 41 4 vC V2.heap.size w8 (.slice p3 (ll + 1) c3) (sel ((T.zip N).take (j + 1)) s.nm) ∧ Below V2.heap.size V2 w8) := by
                  rw [HN.out.2]
                  have ba : Below V2.heap.size V2 (W7.alloc (.cells #[.int .i64 va, .int .i64 vb, .int .i64 vc, .int .i64 vd] 41)) := HJ7.out.2.alloc HJ7.out.2.size _
                  exact ⟨hr8, ba.trans hb8⟩
                clear hr8 hb8 O1 Z1 R1 e9 e8 x0 x1 x2 x3 HJ7
                go_wp2_with fail
                exact ⟨⟨j + 1, tj + 1, ll + 1, p3, c3, by simp, by simp, by simp, by omega, by omega, by omega, HN.out.1, H8.out.1, H8.out.2⟩, by simp only [intOf]; omega⟩
              · have HN : Hid (tj = tk + (N.take (j + 1)).countP (fun x => x == s.nm) ∧ sel ((T.zip N).take (j + 1)) s.nm = sel ((T.zip N).take j) s.nm) := by
                  refine ⟨?_, by rw [hsl, if_neg e, List.append_nil]⟩
                  rw [hct, if_neg (by simpa using e), HJ.out.1]
                  rfl
                have e1 : (x == s.nm) = false := by simpa using e
                clear hx hv hz hct hsl
                generalize hsn : s.nm = sn at *
                go_upto_region 16 with fail
                go_quiet (fail)
                clear xn xs
                have HJ7 : Hid (GRow 41 4 vC V2.heap.size (wr.drewN nq) (.slice p ll cc) (sel ((T.zip N).take (j + 1)) sn) ∧ Below V2.heap.size V2 (wr.drewN nq)) := ⟨by rw [HN.out.2]; exact HJ.out.2.1.below (below_drewN (Below.refl _ _) nq), below_drewN HJ.out.2.2 nq⟩
                clear HJ BW2
                generalize wr.drewN nq = W7 at *
                go_wp2_with fail
                exact ⟨⟨j + 1, tj, ll, p, cc, by simp, by simp, by simp, by omega, by omega, by omega, HN.out.1, HJ7.out.1, HJ7.out.2⟩, by simp only [intOf]; omega⟩
            · have j1 : ¬ (j : Int) < (kn : Int) := by omega
              have j2 : decide ((j : Int) < (kn : Int)) = false := decide_eq_false j1
              have hso : s.v.ok = true := List.all_eq_true.1 HR.out.2.2.2.2.1 s (List.mem_of_getElem? HS.out)
              have hroom := HR.out.2.2.1 s (List.mem_of_getElem? HS.out)
              have hzt : (T.zip N).take j = T.zip N := List.take_of_length_le (by rw [List.length_zip]; have := HR.out.1; have := A3.out.1.n; omega)
              have hnt : N.take j = N := List.take_of_length_le (by have := HR.out.1; omega)
              obtain ⟨hsum, hft⟩ := sum_room hso (zip_ok HR.out.2.2.2.1) hroom
              have HJ1 := HJ.out.1
              have HJ2 := HJ.out.2.1
              rw [hnt] at HJ1
              rw [hzt] at HJ2
              have hlen : ll = (sel (T.zip N) s.nm).length := HJ2.len
              have HTK2 : Hid (tj = N.countP (inB (S.take (i + 1)))) := by
                show _ = _
                rw [count_step HR.out.2.2.2.2.2 HS.out, ← HTK.out]
                exact HJ1
              have H19 : Hid (Calls Try.prog 19 #[.slice p ll cc] wr fun e w' => e = ansV (tot (T.zip N) s.nm, 0) ∧ Below wr.heap.size wr w') := by
                have := rsum_gen (sel (T.zip N) s.nm) p cc wr (by omega) (grow_lies HJ2)
                rw [hsum, ← hlen] at this
                exact this
              have HFT : Hid (ftV (tot (T.zip N) s.nm) s.v = true) := hft
              have BJ : Hid (Below w3.heap.size w3 wr) := BW2.out
              clear HJ HJ1 HJ2 hsum hft hso hroom hzt hnt hlen BW2 HTK
              generalize htt : tot (T.zip N) s.nm = tt at *
              obtain ⟨ta, tb, tc, td⟩ := tt
              have H19' : Hid (Calls Try.prog 19 #[.slice p ll cc] wr fun e w' => e = .returned (.tuple #[.agg #[.int .i64 ta, .int .i64 tb, .int .i64 tc, .int .i64 td], .int .i64 0]) ∧ Hid (Below wr.heap.size wr w')) := H19.out
              clear H19 htt
              obtain ⟨g, o, rfl, -⟩ := SA.at A3.out.1.s HS.out
              go_upto_region 20 with (go_at_call 19; refine H19'.out.mono ?_; rintro e w8 ⟨rfl, b8⟩)
              have ba : Below w8.heap.size w8 (w8.alloc (.cells #[.int .i64 ta, .int .i64 tb, .int .i64 tc, .int .i64 td] 41)) := (Below.refl _ w8).alloc (Nat.le_refl _) _
              have B9 : Hid (Below w3.heap.size w3 (w8.alloc (.cells #[.int .i64 ta, .int .i64 tb, .int .i64 tc, .int .i64 td] 41))) := below_from (below_from BJ.out b8.out BJ.out.size) ba (by have := BJ.out.size; have := b8.out.size; omega)
              obtain ⟨z0, z1, z2, z3, -⟩ := cells4 (new0 (w := w8) (o := .cells #[.int .i64 ta, .int .i64 tb, .int .i64 tc, .int .i64 td] 41))
              obtain ⟨bx, hbx⟩ : ∃ bx, bx = w8.heap.size := ⟨_, rfl⟩
              rw [← hbx] at z0 z1 z2 z3 ⊢
              clear hbx ba b8 H19'
              generalize w8.alloc (.cells #[.int .i64 ta, .int .i64 tb, .int .i64 tc, .int .i64 td] 41) = W9 at *
              obtain ⟨g', o', e', -, c1, c2, c3, c4⟩ := SA.at (A3.out.1.s.below B9.out) HS.out
              cases e'
              have c2 : W9.cell? ⟨g, o + i * 5 + 1 + 1, none⟩ = some (.int .i64 s.v.b) := c2
              have c3 : W9.cell? ⟨g, o + i * 5 + 1 + 2, none⟩ = some (.int .i64 s.v.c) := c3
              have c4 : W9.cell? ⟨g, o + i * 5 + 1 + 3, none⟩ = some (.int .i64 s.v.d) := c4
              have H20 : Hid (∀ w, Calls Try.prog 20 #[.agg #[.int .i64 ta, .int .i64 tb, .int .i64 tc, .int .i64 td], .agg #[.int .i64 s.v.a, .int .i64 s.v.b, .int .i64 s.v.c, .int .i64 s.v.d]] w fun r w' => r = .returned (.bool true) ∧ Below w.heap.size w w') := fun w => by
                have := rfits_any ta tb tc td s.v.a s.v.b s.v.c s.v.d w
                rw [show ft ta tb tc td s.v.a s.v.b s.v.c s.v.d = true from HFT.out] at this
                exact this
              generalize s.v.a = sa at *
              generalize s.v.b = sb at *
              generalize s.v.c = sc at *
              generalize s.v.d = sd at *
              have G20 := grown (W := W9) H20
              have m0 := cell_regrown z0
              have m1 := cell_regrown z1
              have m2 := cell_regrown z2
              have m3 := cell_regrown z3
              have p1 := cell_regrown c1
              have p2 := cell_regrown c2
              have p3 := cell_regrown c3
              have p4 := cell_regrown c4
              refine wp_region_quiet_below (by kernel_rfl) (by kernel_rfl) ?_
              repeat (first | go_big_quiet_step ((go_at_call 20; exact G20.out _ _)) | quiet_step ((go_at_call 20; exact G20.out _ _)))
              refine wpQuiet_nil ?_
              intro _ hw'
              obtain ⟨⟨dq, osq⟩, hw''⟩ := hw'
              subst hw''
              have BN : Hid (Below w3.heap.size w3 (grow (redrawn W9 dq) osq)) := below_from B9.out (below_regrown W9 dq osq) B9.out.size
              clear m0 m1 m2 m3 p1 p2 p3 p4 z0 z1 z2 z3 c1 c2 c3 c4 G20 H20
              generalize grow (redrawn W9 dq) osq = W10 at *
              go_wp2_with fail
              exact ⟨⟨i + 1, tj, by simp, by simp, by omega, HTK2.out, BN.out⟩, by simp only [intOf]; omega⟩
        · have hlt' : ¬ (i : Int) < (m : Int) := by omega
          have hd : decide ((i : Int) < (m : Int)) = false := decide_eq_false hlt'
          obtain rfl : tk = kn := by
            rw [HI.out.1, List.take_of_length_le (by have := A3.out.1.m; omega), count_all HR.out.2.1]
            exact HR.out.1
          go_wp2_with fail
          go_ret
          exact ⟨rfl, below_from A3.out.2.1 HI.out.2 A3.out.2.1.size⟩
    · have hN : (fitR T S).2 = [] := by
        rcases fitR_len T S with ⟨h, _⟩ | ⟨_, h⟩
        · exact absurd h he
        · exact h
      have e1 : ¬ (((fitR T S).1 : Nat) : Int) = 0 := by omega
      have e2 : ((((fitR T S).1 : Nat) : Int) == 0) = false := by rw [beq_eq_false_iff_ne]; exact e1
      rw [hN] at hkn
      obtain rfl : 0 = kn := hkn
      clear hN he
      generalize (fitR T S).1 = fe at *
      go_wp2_with fail
      go_ret
      exact ⟨rfl, A3.out.2.1⟩
end Go.Proofs.Ytclhnclhocekkaa
