/-
  DagReleases' law.
-/
import Derived.Test.YtodldfgoieikcaaLi
import Derived.Test.YtodldfgoieikcaaLb
import Derived.Test.YtodldfgoieikcaaSb
namespace Go.Proofs.Ytodldfgoieikcaa
open Go.RowKit Go.Maps

/-- while jobs are added -/
structure R1 (w0 w : World) (B gb i : Nat) (u : Value) (m : Nat) (F : List Int) : Prop where
  g : ∃ g, PG w0 w gb g ∧ Gi g i ∧ ∀ y, y ∈ F ↔ ∃ n : Nat, y = n ∧ 1 ≤ n ∧ n ≤ i ∧ frB g n = true
  r : IRow B w u F
  n : m = F.length
  b : gb < B ∧ w0.heap.size ≤ B ∧ B ≤ w.heap.size
  d : F.Nodup
theorem R1.grow {w0 w w1 : World} {B gb i : Nat} {u : Value} {m : Nat} {F : List Int} (h : R1 w0 w B gb i u m F) (k : Below w.heap.size w w1) : R1 w0 w1 B gb i u m F := by
  obtain ⟨g, h1, h2⟩ := h.g
  exact ⟨⟨g, h1.grow k, h2⟩, h.r.below k, h.n, ⟨h.b.1, h.b.2.1, Nat.le_trans h.b.2.2 k.size⟩, h.d⟩
theorem fr_add {g : GS} {i n : Nat} {E : List Int} (h : Gi g i) (hi : i < 100) (hn : n ≤ i) : frB (g.add (i + 1) (stI E)) n = frB g n := by
  have hne : n ≠ i + 1 := by omega
  have key : frB (g.add (i + 1) (stI E)) n = true ↔ frB g n = true := by
    rw [frB_iff, frB_iff]
    unfold GS.add
    simp only [if_neg hne]
    refine and_congr Iff.rfl ⟨fun q j hj hp => ?_, fun q j hj hp => ?_⟩
    · have := q j hj hp
      have hl := h.l n j (by omega) hj hp
      rw [if_neg (by omega)] at this
      exact this
    · have hl := h.l n j (by omega) hj hp
      rw [if_neg (by omega)]
      exact q j hj hp
  cases e1 : frB (g.add (i + 1) (stI E)) n <;> cases e2 : frB g n <;> simp_all
theorem fr_new {g g' : GS} {i : Nat} {E F : List Int} {a : Bool} {er : Int} (h : Gi g i) (hi : i < 100) (hE : ∀ y ∈ E, 1 ≤ y ∧ y ≤ (i : Int)) (hr : AddR g ((i + 1 : Nat) : Int) E a er g') (hd : F.Nodup) (hm : ∀ y, y ∈ F ↔ ∃ n : Nat, y = n ∧ 1 ≤ n ∧ n ≤ i ∧ frB g n = true) :
    er = 0 ∧ a = decide (E.length = 0) ∧ Gi g' (i + 1) ∧ (E.length = 0 → (F ++ [((i + 1 : Nat) : Int)]).Nodup ∧ ∀ y, y ∈ F ++ [((i + 1 : Nat) : Int)] ↔ ∃ n : Nat, y = n ∧ 1 ≤ n ∧ n ≤ i + 1 ∧ frB g' n = true) ∧ (E.length ≠ 0 → ∀ y, y ∈ F ↔ ∃ n : Nat, y = n ∧ 1 ≤ n ∧ n ≤ i + 1 ∧ frB g' n = true) := by
  obtain ⟨e1, e2, e3, e4⟩ := h.add hi hE hr
  have hfa : frB g' (i + 1) = decide (E.length = 0) := by
    rw [← e2]
    rw [e1] at hr
    cases hr with
    | ok k h1 h2 h3 h4 h5 h6 h7 =>
      have : k = i + 1 := by omega
      rw [this]
  subst e3
  refine ⟨e1, e2, e4, fun h0 => ⟨nodup_snoc hd fun q => ?_, fun y => ?_⟩, fun h0 y => ?_⟩
  · obtain ⟨n, e, _, h2, _⟩ := (hm _).1 q
    omega
  · rw [List.mem_append, hm]
    simp only [List.mem_singleton]
    constructor
    · rintro (⟨n, q1, q2, q3, q4⟩ | rfl)
      · exact ⟨n, q1, q2, by omega, by rw [fr_add h hi q3]; exact q4⟩
      · exact ⟨i + 1, rfl, by omega, Nat.le_refl _, by rw [hfa]; simpa using h0⟩
    · rintro ⟨n, q1, q2, q3, q4⟩
      by_cases e : n = i + 1
      · exact .inr (by omega)
      · exact .inl ⟨n, q1, q2, by omega, by rw [fr_add h hi (by omega)] at q4; exact q4⟩
  · rw [hm]
    constructor
    · rintro ⟨n, q1, q2, q3, q4⟩
      exact ⟨n, q1, q2, by omega, by rw [fr_add h hi q3]; exact q4⟩
    · rintro ⟨n, q1, q2, q3, q4⟩
      by_cases e : n = i + 1
      · rw [e, hfa] at q4
        exact absurd (of_decide_eq_true q4) h0
      · exact ⟨n, q1, q2, by omega, by rw [fr_add h hi (by omega)] at q4; exact q4⟩
structure R2 (w0 w : World) (B gb N i : Nat) (u : Value) (m : Nat) (F : List Int) (g : GS) : Prop where
  pg : PG w0 w gb g
  qv : Qv g N F i
  r : IRow B w u F
  n : m = F.length
  b : gb < B ∧ w0.heap.size ≤ B ∧ B ≤ w.heap.size
/-- a number behind a row of numbers: only that row is changed -/
theorem append_one2 {ops : Array Oper} {rest : List Oper} {o : Oper} {a : Act} {Q : Exit → Act → World → Prop} {wr : World} {B : Nat} (hgd : o.guard = none) (s x : Operand) (ho : o.op = .call { callee := .builtin .append, args := #[s, x], argTypes := #[32, 32] }) (p : Option Addr) (m c : Nat) (E : List Int) (y : Int) (hs : a.eval s = .slice p m c) (hr : IRow B wr (.slice p m c) E) (hB : B ≤ wr.heap.size)
    (g cc : Nat) (hx : a.eval x = .slice (some ⟨g, 0, none⟩) 1 cc) (hg : wr.cell? ⟨g, 0, none⟩ = some (.int .i64 y)) (h9 : m ≤ 1000000000000)
    (h : ∀ g3 c3 w3, IRow B w3 (.slice (some ⟨g3, 0, none⟩) (m + 1) c3) (E ++ [y]) → wr.grownBy w3 (Value.slice p m c).ownBlock → ((Value.slice p m c).ownBlock = some g3 ∨ g3 = wr.heap.size) → wpList Try.prog ops Q rest (a.put o.dst (.slice (some ⟨g3, 0, none⟩) (m + 1) c3)) w3) :
    wpList Try.prog ops Q (o :: rest) a wr := by
  have hm := hr.len
  obtain ⟨i0, hi, hz0, hz1, hz2⟩ := info_parts info2
  refine wpList_append_own_at _ hgd s x 32 ho B 2 i0 (.int .i64 0) 1 8 Try.underlying32 hi hz0 hz1 hz2 rfl (by decide) (.slice p m c) m (ints E) hs (by have := hr; unfold IRow at this; rw [← hm] at this; exact this) ⟨g, 0, none⟩ 1 cc (ints [y]) hx rfl (fun j u hj => ?_) ints_one (by unfold maxLen; omega) (by omega) hB fun v' w3 ho3 hg3 _ hn3 => ?_
  · cases j with
    | zero => simp [ints] at hj; rw [← hj, Addr.add_lit]; exact hg
    | succ j => simp [ints] at hj
  · have R3 : IRow B w3 v' (E ++ [y]) := by
      unfold IRow
      rw [List.length_append, ← hm]
      have e9 : ints (E ++ [y]) = ints E ++ ints [y] := by simp [ints]
      rw [e9]
      exact ho3
    obtain ⟨g3, c3, e3⟩ := R3.row (by simp)
    rw [List.length_append, ← hm] at e3
    subst e3
    refine h g3 c3 w3 R3 hg3 ?_
    rcases hn3 with q | q
    · exact .inl q.symm
    · exact .inr (by injection q)
/-- while what is told free is laid behind -/
structure R3 (w0 w : World) (B gb : Nat) (u : Value) (m : Nat) (F : List Int) (g : GS) (u3 : Value) (n3 : Nat) (E : List Int) (k : Nat) : Prop where
  pg : PG w0 w gb g
  r : IRow B w u (F ++ E.take k)
  n : m = (F ++ E.take k).length
  b : gb < B ∧ w0.heap.size ≤ B ∧ B ≤ w.heap.size
  e : IRow 0 w u3 E
  ne : ∀ j, u.ownBlock = some j → u3.ownBlock ≠ some j
set_option maxHeartbeats 4000000 in
set_option maxRecDepth 100000 in
theorem releases_law (q : Option Addr) (n c : Nat) (L : List Bl) (w : World) (hn : n = L.length) (hq : Ll w q L) (h9 : n ≤ 9223372036854775807) :
    Calls Try.prog 5 #[.slice q n c] w fun e w' => e = .returned (.bool true) ∧ Below w.heap.size w w' := by
  have HA : Hid (∀ W, Below w.heap.size w W → Calls Try.prog 9 #[] W fun e w' => e = .returned (.bool true) ∧ Hid (Below w.heap.size w w')) := fun W b => awake_any w W b
  have HA0 : Hid (Calls Try.prog 9 #[] w fun e w' => e = .returned (.bool true) ∧ Hid (Below w.heap.size w w')) := HA.out w (Below.refl _ _)
  go_enter Try.func5, Try.ntmps5
  by_cases h2 : 100 < n
  · have h2' : decide ((100 : Int) < (n : Int)) = true := decide_eq_true (by omega)
    clear h2 hn hq
    go_upto_region 2 with (go_at_call 9; refine HA0.out.mono ?_; rintro e w1 ⟨rfl, b1⟩)
    go_wp2_with (go_at_call 9; refine (HA.out _ b1.out).mono ?_; rintro e w2 ⟨rfl, b2⟩)
    go_ret
    exact ⟨rfl, b2.out⟩
  have h2' : decide ((100 : Int) < (n : Int)) = false := decide_eq_false (by omega)
  have hn1 : n ≤ 100 := by omega
  have HS : Hid (n = L.length ∧ Ll w q L) := ⟨hn, hq⟩
  have HN : Hid (∀ W, Below w.heap.size w W → Calls Try.prog 11 #[] W fun e w' => e = .returned (.pointer (some ⟨W.heap.size, 0, none⟩)) ∧ Hid (PG w w' W.heap.size g0 ∧ w'.heap.size = W.heap.size + 1)) := fun W b => pg_new w W b
  clear h2 hn hq h9 HA
  go_upto_region 4 with (first
      | (go_at_call 9; refine HA0.out.mono ?_; rintro e w2 ⟨rfl, b1⟩)
      | (go_at_call 11; refine (HN.out _ b1.out).mono ?_; rintro e w3 ⟨rfl, h3⟩))
  clear HA0 HN b1 h2'
  have H1 : Hid (R1 w w3 w3.heap.size w2.heap.size 0 (.slice none 0 0) 0 []) := ⟨⟨g0, h3.out.1, gi_zero, fun y => ⟨(fun h => by cases h), (fun ⟨n, _, h1, h2, _⟩ => by omega)⟩⟩, IRow.nil _ _, rfl, ⟨h3.out.1.gr.lt, h3.out.1.bl.size, Nat.le_refl _⟩, List.nodup_nil⟩
  clear h3
  generalize w2.heap.size = gb at *
  obtain ⟨B, hB⟩ : ∃ B, B = w3.heap.size := ⟨_, rfl⟩
  rw [← hB] at H1
  clear hB
  go_wp2_with fail
  go_loopw [4, 5] (fun t4 t5 wr => ∃ (i : Nat) (p : Option Addr) (m cc : Nat) (F : List Int), t4 = .slice p m cc ∧ t5 = .int .i64 i ∧ i ≤ n ∧ m ≤ i ∧ Hid (R1 w wr B gb i (.slice p m cc) m F)) (fun _ t5 _ => n - (intOf t5).toNat)
  case atStart => exact ⟨0, none, 0, 0, [], rfl, rfl, Nat.zero_le _, Nat.zero_le _, H1.out⟩
  case round =>
    clear H1
    obtain ⟨i, p, m, cc, F, rfl, rfl, hin, hmi, H1⟩ := hrel
    by_cases hi : i < n
    · have hi' : (i : Int) < (n : Int) := by omega
      obtain ⟨o, ho⟩ : ∃ o, L[i]? = some o := ⟨_, List.getElem?_eq_getElem (by have := HS.out.1; omega)⟩
      have HC : Hid (∀ W, Below w.heap.size w W → ∃ gs f, q = some ⟨gs, f, none⟩ ∧ W.cell? ⟨gs, f + i, none⟩ = some (.slice o.p o.n o.c)) := fun W hW => by
        obtain ⟨⟨gs', f', e, t0⟩, _⟩ := HS.out.2 i o ho
        exact ⟨gs', f', e, cell_below t0 hW⟩
      have HO : Hid (o.n = o.bs.length ∧ ∀ W, Below w.heap.size w W → ∀ k x : Nat, o.bs[k]? = some x → x < 256 ∧ ∃ g f, o.p = some ⟨g, f, none⟩ ∧ W.cell? ⟨g, f + k, none⟩ = some (.int .u8 x)) := by
        obtain ⟨_, h4, h5, _⟩ := HS.out.2 i o ho
        refine ⟨h4, fun W hW k x hx => ?_⟩
        obtain ⟨h6, g, f, e, h7⟩ := h5 k x hx
        exact ⟨h6, g, f, e, cell_below h7 hW⟩
      have hom : o.n ≤ 9223372036854775807 := by have := (HS.out.2 i o ho).2.2.2; unfold maxLen at this; omega
      have HBL : Hid (Below w.heap.size w wr) := by obtain ⟨g, h1, _⟩ := H1.out.g; exact h1.bl
      have HL0 : Hid (0 = (prn i o.bs 0).length ∧ IRow wr.heap.size wr (.slice none 0 0) (prn i o.bs 0) ∧ Below wr.heap.size wr wr ∧ 0 ≤ o.n ∧ (i = 0 → 0 = 0)) := ⟨rfl, IRow.nil _ _, Below.refl _ _, Nat.zero_le _, fun _ => rfl⟩
      generalize o.p = op at *
      generalize o.n = on at *
      generalize o.c = oc at *
      clear ho
      go_wp2_with fail
      obtain ⟨W0, hW0⟩ : ∃ W0, W0 = wr := ⟨_, rfl⟩
      rw [← hW0] at H1 HBL HL0
      go_loopw [6, 7] (fun t6 t7 wx => ∃ (k : Nat) (p2 : Option Addr) (m2 c2 : Nat), t6 = .slice p2 m2 c2 ∧ t7 = .int .i64 k ∧ k ≤ 5 ∧ m2 ≤ 5 ∧ Hid (m2 = (prn i o.bs k).length ∧ IRow W0.heap.size wx (.slice p2 m2 c2) (prn i o.bs k) ∧ Below W0.heap.size W0 wx ∧ k ≤ on ∧ (i = 0 → k = 0))) (fun _ t7 _ => 5 - (intOf t7).toNat)
      case atStart => exact ⟨0, none, 0, 0, rfl, rfl, Nat.zero_le _, Nat.zero_le _, by rw [← hW0]; exact ⟨HL0.out.1, HL0.out.2.1, HL0.out.2.2.1, HL0.out.2.2.2.1, fun _ => rfl⟩⟩
      case round =>
        clear HL0 hW0
        obtain ⟨k, p2, m2, c2, rfl, rfl, hk5, hm5, HL⟩ := hrel
        have hbl : Below w.heap.size w wr := HBL.out.trans (HL.out.2.2.1.mono HBL.out.size)
        obtain ⟨gs, f, rfl, s0⟩ := HC.out wr hbl
        by_cases hgo : k < on ∧ k < 5 ∧ 0 < i
        · obtain ⟨g1, g2, g3⟩ := hgo
          have g1' : (k : Int) < (on : Int) := by omega
          have g2' : (k : Int) < 5 := by omega
          have g3' : (0 : Int) < (i : Int) := by omega
          have g1d : decide ((k : Int) < (on : Int)) = true := decide_eq_true g1'
          have g2d : decide ((k : Int) < 5) = true := decide_eq_true g2'
          have g3d : decide ((0 : Int) < (i : Int)) = true := decide_eq_true g3'
          have g3n : decide (0 < i) = true := decide_eq_true g3
          have hi0 : ¬ (i : Int) = 0 := by omega
          obtain ⟨b, hb⟩ : ∃ b, o.bs[k]? = some b := ⟨_, List.getElem?_eq_getElem (by have := HO.out.1; omega)⟩
          obtain ⟨hb256, gb2, fb2, rfl, cb⟩ := HO.out.2 wr hbl k b hb
          obtain ⟨r, hr⟩ : ∃ r, r = b % i := ⟨_, rfl⟩
          have r1 : (b : Int).tmod (i : Int) = (r : Int) := by rw [Int.tmod_eq_emod_of_nonneg (by omega), hr]; simp
          have r2 : (b : Int) % (i : Int) = (r : Int) := by rw [hr]; simp
          have hri : r < i := by rw [hr]; exact Nat.mod_lt _ g3
          obtain ⟨V, hV⟩ : ∃ V : Nat, V = 1 + r := ⟨_, rfl⟩
          have v1 : (1 : Int) + (r : Int) = (V : Int) := by omega
          have v2 : IntKind.i64.wrap ((1 : Int) + (r : Int)) = (V : Int) := by rw [IntKind.wrap_i64]; omega
          have hV9 : V ≤ 1000 := by omega
          have w3' := wr_nat V hV9
          have HE : Hid (prn i o.bs (k + 1) = prn i o.bs k ++ [(V : Int)]) := by
            show prn i o.bs (k + 1) = _
            rw [prn_succ hb, ← hr, v1]
          have HK : Hid (k < on ∧ 0 < i ∧ k < 5) := ⟨g1, g3, g2⟩
          have HOo : Hid (IRow W0.heap.size (wr.alloc (.cells #[.int .i64 V] 2)) (.slice p2 m2 c2) (prn i o.bs k)) := HL.out.2.1.below ((Below.refl _ _).alloc (Nat.le_refl _) _)
          have HV : Hid ((wr.alloc (.cells #[.int .i64 V] 2)).cell? ⟨wr.heap.size, 0, none⟩ = some (.int .i64 V)) := by show World.cell? _ _ = _; rw [cell_of new0]; rfl
          have HB4 : Hid (Below W0.heap.size W0 (wr.alloc (.cells #[.int .i64 V] 2))) := HL.out.2.2.1.alloc HL.out.2.2.1.size _
          clear hb hr hri hV hV9 hbl g1 g2 g3
          go_wp2_with (at_builtin; refine append_one (wr := wr.alloc (.cells #[.int .i64 V] 2)) (B := W0.heap.size) rfl _ _ rfl p2 m2 c2 (prn i o.bs k) V rfl HOo.out HB4.out.size wr.heap.size 1 rfl HV.out (by omega) ?_; intro g7 c7 w7 R7 hB7)
          clear w3' v1 v2 r1 r2
          have hk := HK.out
          have hml : m2 + 1 = (prn i o.bs (k + 1)).length := by rw [HE.out, List.length_append, ← HL.out.1]; rfl
          refine ⟨⟨k + 1, _, m2 + 1, c7, rfl, by simp, by omega, by have := prn_len i o.bs (k + 1); omega, hml, by rw [HE.out]; exact R7, HB4.out.trans hB7, by omega, fun e => by omega⟩, ?_⟩
          simp [intOf]
          omega
        · have HX : Hid (R1 w wr B gb i (.slice p m cc) m F ∧ (∀ y ∈ prn i o.bs k, 1 ≤ y ∧ y ≤ (i : Int)) ∧ m2 = (prn i o.bs k).length ∧ AI wr p2 (prn i o.bs k)) := by
            refine ⟨H1.out.grow HL.out.2.2.1, ?_, HL.out.1, HL.out.2.1.ai⟩
            by_cases e : i = 0
            · have := HL.out.2.2.2.2 e
              subst this
              intro y hy
              simp [prn] at hy
            · exact prn_mem (by omega)
          obtain ⟨J, hJ⟩ : ∃ J : Nat, J = i + 1 := ⟨_, rfl⟩
          have j1 : (i : Int) + 1 = (J : Int) := by omega
          have hJ9 : J ≤ 1000 := by omega
          have jw := wr_nat J hJ9
          have H15 : Hid (Calls Try.prog 15 #[.pointer (some ⟨gb, 0, none⟩), .int .i64 J, .slice p2 m2 c2] wr fun e w' => ∃ a er, e = .returned (.tuple #[.bool a, .int .i64 er]) ∧ Hid (er = 0 ∧ a = decide (m2 = 0) ∧ (m2 = 0 → ∃ g, PG w w' gb g ∧ Gi g (i + 1) ∧ IRow B w' (.slice p m cc) F ∧ B ≤ w'.heap.size ∧ (F ++ [(J : Int)]).Nodup ∧ ∀ y, y ∈ F ++ [(J : Int)] ↔ ∃ n : Nat, y = n ∧ 1 ≤ n ∧ n ≤ i + 1 ∧ frB g n = true) ∧ (m2 ≠ 0 → R1 w w' B gb (i + 1) (.slice p m cc) m F))) := by
            obtain ⟨g, h1, h2, h3⟩ := HX.out.1.g
            refine (add_any h1.gr J p2 m2 c2 _ HX.out.2.2.1 HX.out.2.2.2 (by omega)).mono ?_
            rintro e w' ⟨a, er, rfl, g', r1, r2, r3⟩
            rw [hJ] at r1
            obtain ⟨e1, e2, e3, e4, e5⟩ := fr_new h2 (by omega) HX.out.2.1 r1 HX.out.1.d h3
            have hP := h1.kp r3 r2
            have hR := irow_gb HX.out.1.r h1.gr r3
            have hsz : B ≤ w'.heap.size := Nat.le_trans HX.out.1.b.2.2 r3.size
            rw [← HX.out.2.2.1] at e2 e4 e5
            refine ⟨a, er, rfl, e1, e2, fun h0 => ?_, fun h0 => ⟨⟨g', hP, e3, e5 h0⟩, hR, HX.out.1.n, ⟨HX.out.1.b.1, HX.out.1.b.2.1, hsz⟩, HX.out.1.d⟩⟩
            rw [hJ]
            exact ⟨g', hP, e3, hR, hsz, e4 h0⟩
          have HBB : Hid (gb < B ∧ w.heap.size ≤ B ∧ m = F.length) := ⟨HX.out.1.b.1, HX.out.1.b.2.1, HX.out.1.n⟩
          have HIN : Hid (i < n ∧ m ≤ i) := ⟨hi, hmi⟩
          have hG : (¬ k < on) ∨ (k < on ∧ ¬ k < 5) ∨ (k < on ∧ k < 5 ∧ ¬ 0 < i) := by omega
          clear HX HL hgo hbl H1 HBL hJ hJ9
          have S3 : (decide ((k : Int) < (on : Int)) = false) ∨ (decide ((k : Int) < (on : Int)) = true ∧ decide ((k : Int) < 5) = false) ∨ (decide ((k : Int) < (on : Int)) = true ∧ decide ((k : Int) < 5) = true ∧ i = 0) := by
            rcases hG with q | ⟨q1, q2⟩ | ⟨q1, q2, q3⟩
            · exact .inl (decide_eq_false (by omega))
            · exact .inr (.inl ⟨decide_eq_true (by omega), decide_eq_false (by omega)⟩)
            · exact .inr (.inr ⟨decide_eq_true (by omega), decide_eq_true (by omega), by omega⟩)
          clear hG
          rcases S3 with d1 | ⟨d1, d2⟩ | ⟨d1, d2, hi0⟩
          all_goals try have d3 : decide ((0 : Int) < (i : Int)) = false := decide_eq_false (by omega)
          all_goals try have d4 : decide (0 < i) = false := decide_eq_false (by omega)
          all_goals try have d5 : ¬ (0 : Int) < (i : Int) := by omega
          all_goals try have c1 : ¬ k < on := fun q => by simp at d1; omega
          all_goals try have c2 : decide (k < on) = false := decide_eq_false c1
          all_goals try have c3 : ¬ (k : Int) < (on : Int) := by omega
          all_goals try have d6 : ¬ 0 < i := by omega
          all_goals try have d7 : ¬ k < 5 := fun q => by simp at d2; omega
          all_goals try have d8 : decide (k < 5) = false := decide_eq_false d7
          all_goals try have d9 : ¬ (k : Int) < 5 := by omega
          all_goals try clear hi0
          all_goals go_upto_region 14 with (go_at_call 15; refine H15.out.mono ?_; rintro e w4 ⟨a, er, rfl, h4⟩)
          all_goals clear H15
          all_goals
            obtain ⟨rfl, ha, hz0, hz1⟩ := h4.out
            by_cases h0 : m2 = 0
            · have a1 : a = true := by rw [ha]; exact decide_eq_true h0
              subst a1
              have e0 : ((m2 : Int) == 0) = true := by simp [h0]
              obtain ⟨g, q1, q2, q3, q4, q5, q6⟩ := hz0 h0
              have HQ : Hid (PG w w4 gb g ∧ Gi g (i + 1) ∧ IRow B w4 (.slice p m cc) F ∧ B ≤ w4.heap.size ∧ (F ++ [(J : Int)]).Nodup ∧ ∀ y, y ∈ F ++ [(J : Int)] ↔ ∃ n : Nat, y = n ∧ 1 ≤ n ∧ n ≤ i + 1 ∧ frB g n = true) := ⟨q1, q2, q3, q4, q5, q6⟩
              have HOo : Hid (IRow B (w4.alloc (.cells #[.int .i64 J] 2)) (.slice p m cc) F) := HQ.out.2.2.1.below ((Below.refl _ _).alloc (Nat.le_refl _) _)
              have HV : Hid ((w4.alloc (.cells #[.int .i64 J] 2)).cell? ⟨w4.heap.size, 0, none⟩ = some (.int .i64 J)) := by show World.cell? _ _ = _; rw [cell_of new0]; rfl
              have HB4 : Hid (Below B w4 (w4.alloc (.cells #[.int .i64 J] 2)) ∧ B ≤ (w4.alloc (.cells #[.int .i64 J] 2)).heap.size) := ⟨(Below.refl _ _).alloc HQ.out.2.2.2.1 _, by have := HQ.out.2.2.2.1; simp; omega⟩
              clear ha hz0 hz1 h4 q1 q2 q3 q4 q5 q6 h0
              go_wp2_with (at_builtin; refine append_one (wr := w4.alloc (.cells #[.int .i64 J] 2)) (B := B) rfl _ _ rfl p m cc F J rfl HOo.out HB4.out.2 w4.heap.size 1 rfl HV.out (by omega) ?_; intro g7 c7 w7 R7 hB7)
              have hb7 : Below B w4 w7 := HB4.out.1.trans hB7
              have hin := HIN.out
              refine ⟨⟨i + 1, _, m + 1, c7, F ++ [(J : Int)], rfl, by simp [j1], by omega, by omega, ⟨g, ⟨HQ.out.1.gr.below hb7 HBB.out.1, HQ.out.1.bl.trans (hb7.mono HBB.out.2.1), HQ.out.1.nb⟩, HQ.out.2.1, HQ.out.2.2.2.2.2⟩, R7, by rw [List.length_append, ← HBB.out.2.2]; rfl, ⟨HBB.out.1, HBB.out.2.1, Nat.le_trans HQ.out.2.2.2.1 hb7.size⟩, HQ.out.2.2.2.2.1⟩, ?_⟩
              simp [intOf]
              omega
            · have a1 : a = false := by rw [ha]; exact decide_eq_false h0
              subst a1
              have e0 : ((m2 : Int) == 0) = false := by simp; omega
              have HQ : Hid (R1 w w4 B gb (i + 1) (.slice p m cc) m F) := hz1 h0
              clear ha hz0 hz1 h4 h0
              go_wp2_with fail
              have hin := HIN.out
              refine ⟨⟨i + 1, p, m, cc, F, rfl, by simp [j1], by omega, by omega, HQ.out⟩, ?_⟩
              simp [intOf]
              omega
    · have hi' : ¬ (i : Int) < (n : Int) := by omega
      have H2 : Hid (∃ g, R2 w wr B gb n 0 (.slice p m cc) m F g) := by
        obtain ⟨g, h1, h2, h3⟩ := H1.out.g
        have e : i = n := by omega
        subst e
        exact ⟨g, h1, Qv.start h2 hn1 H1.out.d h3, H1.out.r, H1.out.n, H1.out.b⟩
      clear H1 HS
      go_wp2_with fail
      go_loopw [4, 10] (fun t4 t10 wr => ∃ (i : Nat) (p : Option Addr) (m cc : Nat) (F : List Int) (g : GS), t4 = .slice p m cc ∧ t10 = .int .i64 i ∧ i ≤ m ∧ m ≤ 100 ∧ Hid (R2 w wr B gb n i (.slice p m cc) m F g)) (fun _ t10 _ => 101 - (intOf t10).toNat)
      case atStart =>
        obtain ⟨g, h2⟩ := H2.out
        exact ⟨0, p, m, cc, F, g, rfl, rfl, Nat.zero_le _, by omega, h2⟩
      case round =>
        clear H2
        obtain ⟨i, p, m, cc, F, g, rfl, rfl, him, hm1, H2⟩ := hrel
        by_cases hi2 : i < m
        · have hi2' : (i : Int) < (m : Int) := by omega
          obtain ⟨x, hx⟩ : ∃ x, F[i]? = some x := ⟨_, List.getElem?_eq_getElem (by have := H2.out.n; omega)⟩
          obtain ⟨gx, cx9, e0⟩ := H2.out.r.row (by have := H2.out.n; omega)
          injection e0 with e0 e1 e2
          clear e1 e2
          subst e0
          obtain ⟨nx, rfl, hx1, hx2⟩ := H2.out.qv.m x (List.mem_of_getElem? hx)
          have cx := H2.out.r.cell hx
          have hxf := H2.out.qv.f i nx (Nat.le_refl _) hx
          have H18 : Hid (Calls Try.prog 18 #[.pointer (some ⟨gb, 0, none⟩), .int .i64 nx] wr fun e w' => ∃ (p4 : Option Addr) (n4 c4 : Nat), e = .returned (.tuple #[.slice p4 n4 c4, .int .i64 0]) ∧ n4 ≤ 101 ∧ Hid (n4 = (lsI (fdS (g.sett nx 2) nx)).length ∧ R3 w w' B gb (.slice (some ⟨gx, 0, none⟩) m cc) m F (g.sett nx 2) (.slice p4 n4 c4) n4 (lsI (fdS (g.sett nx 2) nx)) 0)) := by
            refine (done_any H2.out.pg.gr nx).mono ?_
            rintro e w' ⟨p4, n4, c4, er, rfl, hn4, E, g', r1, r2, r3, r4, r5⟩
            obtain ⟨rfl, rfl, rfl⟩ := r1.uniq (.ok nx rfl hx1 (by omega) hxf)
            refine ⟨p4, n4, c4, rfl, hn4, r2, H2.out.pg.kp r5 r4, ?_, ?_, ⟨H2.out.b.1, H2.out.b.2.1, Nat.le_trans H2.out.b.2.2 r5.size⟩, r3.mono (Nat.zero_le _), fun j e1 e2 => ?_⟩
            · rw [List.take_zero, List.append_nil]; exact irow_gb H2.out.r H2.out.pg.gr r5
            · rw [List.take_zero, List.append_nil]; exact H2.out.n
            · have h1 := H2.out.r.lt e1
              have h2 := r3.ge e2
              omega
          have HQV : Hid (Qv g n F i ∧ F[i]? = some (nx : Int)) := ⟨H2.out.qv, hx⟩
          have HLE : Hid (∀ j, j ≤ 101 → (F ++ (lsI (fdS (g.sett nx 2) nx)).take j).length ≤ 100) := fun j _ => by
            have h1 := (HQV.out.1.step HQV.out.2).len
            rw [List.length_append] at h1 ⊢
            rw [List.length_take]
            omega
          clear hx hx1 hx2 hxf H2
          go_upto_region 22 with (go_at_call 18; refine H18.out.mono ?_; rintro e w4 ⟨p4, n4, c4, rfl, hn4, h4⟩)
          clear cx H18
          have HE : Hid (n4 = (lsI (fdS (g.sett nx 2) nx)).length) := h4.out.1
          have HR0 : Hid (R3 w w4 B gb (.slice (some ⟨gx, 0, none⟩) m cc) m F (g.sett nx 2) (.slice p4 n4 c4) n4 (lsI (fdS (g.sett nx 2) nx)) 0) := h4.out.2
          clear h4
          go_wp2_with fail
          go_loopw [4, 13] (fun t4 t13 wx => ∃ (k : Nat) (p5 : Option Addr) (m5 c5 : Nat), t4 = .slice p5 m5 c5 ∧ t13 = .int .i64 k ∧ k ≤ n4 ∧ i < m5 ∧ m5 ≤ 100 ∧ Hid (R3 w wx B gb (.slice p5 m5 c5) m5 F (g.sett nx 2) (.slice p4 n4 c4) n4 (lsI (fdS (g.sett nx 2) nx)) k)) (fun _ t13 _ => n4 - (intOf t13).toNat)
          case atStart => exact ⟨0, _, m, cc, rfl, rfl, Nat.zero_le _, hi2, hm1, HR0.out⟩
          case round =>
            clear HR0
            obtain ⟨k, p5, m5, c5, rfl, rfl, hk4, him5, hm5, HR⟩ := hrel
            by_cases hk : k < n4
            · have hk' : (k : Int) < (n4 : Int) := by omega
              obtain ⟨y, hy⟩ : ∃ y, (lsI (fdS (g.sett nx 2) nx))[k]? = some y := ⟨_, List.getElem?_eq_getElem (by have := HE.out; omega)⟩
              obtain ⟨gy, cy9, e9⟩ := HR.out.e.row (by have := HE.out; omega)
              injection e9 with e9 e10 e11
              clear e10 e11
              subst e9
              have cy := HR.out.e.cell hy
              obtain ⟨hy1, hy2, -⟩ := HQV.out.1.fresh HQV.out.2 y (List.mem_of_getElem? hy)
              have hyn : y ∉ F ++ (lsI (fdS (g.sett nx 2) nx)).take k := fun qq => by
                rcases List.mem_append.1 qq with r | r
                · exact hy1 r
                · obtain ⟨j, hj⟩ := List.getElem?_of_mem r
                  rw [List.getElem?_take] at hj
                  split at hj
                  · have := nodup_inj (lsI_ris _).nodup hj hy
                    omega
                  · cases hj
              have H17 : Hid (Calls Try.prog 17 #[.slice p5 m5 c5, .int .i64 y] wr fun e w' => e = .returned (.bool false) ∧ w' = wr) := by
                have := in_any wr p5 m5 c5 _ y HR.out.n HR.out.r.ai (by omega)
                rw [inB_no.2 hyn] at this
                exact this
              have H13 : Hid (Calls Try.prog 13 #[.pointer (some ⟨gb, 0, none⟩), .int .i64 y] wr fun e w' => e = .returned (.bool true) ∧ w' = wr) := by
                have := free_any HR.out.pg.gr y
                rw [hy2] at this
                exact this
              have HTK : Hid (F ++ (lsI (fdS (g.sett nx 2) nx)).take (k + 1) = (F ++ (lsI (fdS (g.sett nx 2) nx)).take k) ++ [y]) := by
                show _ = _
                rw [List.take_add_one, hy, List.append_assoc]
                rfl
              have hl5 := HLE.out (k + 1) (by omega)
              have hn5 := HR.out.n
              have hm6 : m5 + 1 ≤ 100 := by rw [HTK.out, List.length_append, ← hn5] at hl5; exact hl5
              have HOo : Hid (IRow B (wr.alloc (.cells #[.int .i64 y] 2)) (.slice p5 m5 c5) (F ++ (lsI (fdS (g.sett nx 2) nx)).take k)) := HR.out.r.below ((Below.refl _ _).alloc (Nat.le_refl _) _)
              have HV : Hid ((wr.alloc (.cells #[.int .i64 y] 2)).cell? ⟨wr.heap.size, 0, none⟩ = some (.int .i64 y)) := by show World.cell? _ _ = _; rw [cell_of new0]; rfl
              have HB4 : Hid (Below wr.heap.size wr (wr.alloc (.cells #[.int .i64 y] 2)) ∧ B ≤ (wr.alloc (.cells #[.int .i64 y] 2)).heap.size) := ⟨(Below.refl _ _).alloc (Nat.le_refl _) _, by have := HR.out.b.2.2; simp; omega⟩
              clear hy hy1 hy2 hyn hl5 hn5
              go_upto_region 29 with (first
                | (go_at_call 17; refine H17.out.mono ?_; rintro e w6 ⟨rfl, rfl⟩)
                | (go_at_call 13; refine H13.out.mono ?_; rintro e w6 ⟨rfl, rfl⟩))
              clear H17 H13
              have HR6 : Hid (R3 w w6 B gb (.slice p5 m5 c5) m5 F (g.sett nx 2) (.slice (some ⟨gy, 0, none⟩) n4 c4) n4 (lsI (fdS (g.sett nx 2) nx)) k) := HR.out
              clear HR
              go_wp2_with (at_builtin; refine append_one2 (wr := w6.alloc (.cells #[.int .i64 y] 2)) (B := B) rfl _ _ rfl p5 m5 c5 (F ++ (lsI (fdS (g.sett nx 2) nx)).take k) y rfl HOo.out HB4.out.2 w6.heap.size 1 rfl HV.out (by omega) ?_; intro g7 c7 w7 R7 hG7 hn7)
              have hge : ∀ j, (Value.slice p5 m5 c5).ownBlock = some j → B ≤ j := fun j e => HR6.out.r.ge e
              have hbB := HR6.out.b
              have hb7 : Below B w6 w7 := (HB4.out.1.mono hbB.2.2).trans (below_grown hG7 HB4.out.2 hge)
              have hgy : (Value.slice p5 m5 c5).ownBlock ≠ some gy := fun e => HR6.out.ne gy e rfl
              have hgyl : gy < w6.heap.size := HR6.out.e.lt (g := gy) rfl
              have hE7 : IRow 0 w7 (.slice (some ⟨gy, 0, none⟩) n4 c4) (lsI (fdS (g.sett nx 2) nx)) := HR6.out.e.keep fun j e => by
                have ej : gy = j := by injection e
                subst ej
                exact (hG7.block gy (Nat.lt_of_lt_of_le hgyl HB4.out.1.size) fun e2 => hgy e2.symm).trans (HB4.out.1.block gy hgyl)
              refine ⟨⟨k + 1, _, m5 + 1, c7, rfl, by simp, by omega, by omega, hm6, ⟨HR6.out.pg.gr.below hb7 hbB.1, HR6.out.pg.bl.trans (hb7.mono hbB.2.1), HR6.out.pg.nb⟩, by rw [HTK.out]; exact R7, by rw [HTK.out, List.length_append, ← HR6.out.n]; rfl, ⟨hbB.1, hbB.2.1, Nat.le_trans hbB.2.2 hb7.size⟩, hE7, fun j e1 e2 => ?_⟩, ?_⟩
              · have ej : g7 = j := by injection e1
                have ej2 : gy = j := by injection e2
                rcases hn7 with r | r
                · exact hgy (by rw [r, ej, ej2])
                · simp at r
                  omega
              · simp [intOf]
                omega
            · have hk' : ¬ (k : Int) < (n4 : Int) := by omega
              have HN : Hid (R2 w wr B gb n (i + 1) (.slice p5 m5 c5) m5 (F ++ lsI (fdS (g.sett nx 2) nx)) (g.sett nx 2)) := by
                have hr := HR.out.r
                have hn := HR.out.n
                rw [List.take_of_length_le (by have := HE.out; omega)] at hr hn
                exact ⟨HR.out.pg, HQV.out.1.step HQV.out.2, hr, hn, HR.out.b⟩
              clear HR
              go_wp2_with fail
              refine ⟨⟨i + 1, p5, m5, c5, _, _, rfl, by simp, by omega, hm5, HN.out⟩, ?_⟩
              simp [intOf]
              omega
        · have hi2' : ¬ (i : Int) < (m : Int) := by omega
          have HX : Hid (m = n ∧ Below w.heap.size w wr) := by
            have h1 := H2.out.qv
            rw [show i = F.length by have := H2.out.n; omega] at h1
            have := h1.done
            have h3 := H2.out.n
            exact ⟨by omega, H2.out.pg.bl⟩
          clear H2
          go_wp2_with fail
          go_ret
          exact ⟨by rw [HX.out.1]; simp, HX.out.2⟩
end Go.Proofs.Ytodldfgoieikcaa
