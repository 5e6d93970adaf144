/-
  DagFails' law.
-/
import Derived.Test.YtodldfgoieikcaaLg
namespace Go.Proofs.Ytodldfgoieikcaa
open Go.RowKit Go.Maps

/-- what is told failed, and the one that fails, is closed below -/
theorem closed {g : GS} {N x i : Nat} {f : Nat → Bool} (h : Gi g N) (hN : N ≤ 100) (hf : ∀ j, f j = true ↔ Dsc g x j) (hx : x < 101) (h1 : 1 ≤ i) (h2 : i ≤ N) : (i = x ∨ ∃ y ∈ lsI (g.ps i), y ∈ (x : Int) :: lsI f) ↔ (i : Int) ∈ (x : Int) :: lsI f := by
  have hm : ∀ n : Nat, (n : Int) ∈ (x : Int) :: lsI f ↔ n = x ∨ Dsc g x n := fun n => by
    rw [List.mem_cons, mem_lsI]
    constructor
    · rintro (q | ⟨k, e, _, q⟩)
      · exact .inl (by omega)
      · have : n = k := by omega
        rw [this]
        exact .inr ((hf k).1 q)
    · rintro (q | q)
      · exact .inl (by omega)
      · exact .inr ⟨n, rfl, q.lt, (hf n).2 q⟩
  rw [hm]
  constructor
  · rintro (q | ⟨y, hy, hyG⟩)
    · exact .inl q
    · obtain ⟨k, rfl, hk, hp⟩ := mem_lsI.1 hy
      by_cases e : i = x
      · exact .inl e
      · right
        rcases (hm k).1 hyG with q | q
        · rw [q] at hp
          exact .base (by omega) (h.a i h1 h2) e hp
        · exact .step q (by omega) (h.a i h1 h2) e hp
  · rintro (q | q)
    · exact .inl q
    · right
      cases q with
      | base k1 k2 k3 k4 => exact ⟨(x : Int), mem_lsI.2 ⟨x, rfl, hx, k4⟩, by simp⟩
      | @step k0 k k1 k2 k3 k4 k5 => exact ⟨(k : Int), mem_lsI.2 ⟨k, rfl, k1.lt, k5⟩, (hm k).2 (.inr k1)⟩
/-- while jobs are added -/
structure F1 (w0 w : World) (gb i : Nat) : Prop where
  g : ∃ g, PG w0 w gb g ∧ Gi g i
theorem F1.grow {w0 w w1 : World} {gb i : Nat} (h : F1 w0 w gb i) (k : Below w.heap.size w w1) : F1 w0 w1 gb i := by
  obtain ⟨g, h1, h2⟩ := h.g
  exact ⟨g, h1.grow k, h2⟩
/-- behind Fail -/
structure F2 (w0 w : World) (gb : Nat) (g : GS) (N x : Nat) (f : Nat → Bool) (u : Value) (n : Nat) (B : Nat) (u2 : Value) (m : Nat) (i : Nat) : Prop where
  pg : PG w0 w gb (g.fails x f)
  r : IRow 0 w u (lsI f)
  n : n = (lsI f).length
  l : ∀ k, u.ownBlock = some k → k < B
  b : gb < B ∧ w0.heap.size ≤ B ∧ B ≤ w.heap.size
  r2 : IRow B w u2 ((x : Int) :: (lsI f).take i)
  m : m = i + 1
set_option maxHeartbeats 4000000 in
set_option maxRecDepth 100000 in
theorem fails_law (q : Option Addr) (n c : Nat) (L : List Bl) (z : Nat) (w : World) (hn : n = L.length) (hq : Ll w q L) (h9 : n ≤ 9223372036854775807) (hz : z < 256) :
    Calls Try.prog 6 #[.slice q n c, .int .u8 z] w fun e w' => e = .returned (.bool true) ∧ Below w.heap.size w w' := by
  have HA : Hid (∀ W, Below w.heap.size w W → Calls Try.prog 9 #[] W fun e w' => e = .returned (.bool true) ∧ Hid (Below w.heap.size w w')) := fun W b => awake_any w W b
  have HA0 : Hid (Calls Try.prog 9 #[] w fun e w' => e = .returned (.bool true) ∧ Hid (Below w.heap.size w w')) := HA.out w (Below.refl _ _)
  go_enter Try.func6, Try.ntmps6
  by_cases h2 : 100 < n
  · have h2' : decide ((100 : Int) < (n : Int)) = true := decide_eq_true (by omega)
    clear h2 hn hq
    go_upto_region 2 with (go_at_call 9; refine HA0.out.mono ?_; rintro e w1 ⟨rfl, b1⟩)
    go_wp2_with (go_at_call 9; refine (HA.out _ b1.out).mono ?_; rintro e w2 ⟨rfl, b2⟩)
    go_ret
    exact ⟨rfl, b2.out⟩
  have h2' : decide ((100 : Int) < (n : Int)) = false := decide_eq_false (by omega)
  by_cases h0 : n = 0
  · have h0' : ((n : Int) == 0) = true := by simp [h0]
    subst h0
    clear h2 hn hq
    go_upto_region 2 with (go_at_call 9; refine HA0.out.mono ?_; rintro e w1 ⟨rfl, b1⟩)
    go_wp2_with (go_at_call 9; refine (HA.out _ b1.out).mono ?_; rintro e w2 ⟨rfl, b2⟩)
    go_ret
    exact ⟨rfl, b2.out⟩
  have h0' : ((n : Int) == 0) = false := by simp; omega
  have hn1 : n ≤ 100 := by omega
  have hn0 : 0 < n := by omega
  have HS : Hid (n = L.length ∧ Ll w q L) := ⟨hn, hq⟩
  have HN : Hid (∀ W, Below w.heap.size w W → Calls Try.prog 11 #[] W fun e w' => e = .returned (.pointer (some ⟨W.heap.size, 0, none⟩)) ∧ Hid (PG w w' W.heap.size g0 ∧ w'.heap.size = W.heap.size + 1)) := fun W b => pg_new w W b
  clear h2 hn hq h9 HA h0
  go_upto_region 4 with (first
      | (go_at_call 9; refine HA0.out.mono ?_; rintro e w2 ⟨rfl, b1⟩)
      | (go_at_call 11; refine (HN.out _ b1.out).mono ?_; rintro e w3 ⟨rfl, h3⟩))
  clear HA0 HN b1 h2' h0'
  have H1 : Hid (F1 w w3 w2.heap.size 0) := ⟨g0, h3.out.1, gi_zero⟩
  clear h3
  generalize w2.heap.size = gb at *
  go_wp2_with fail
  go_loopw [6] (fun t5 wr => ∃ (i : Nat), t5 = .int .i64 i ∧ i ≤ n ∧ Hid (F1 w wr gb i)) (fun t5 _ => n - (intOf t5).toNat)
  case atStart => exact ⟨0, rfl, Nat.zero_le _, H1.out⟩
  case round =>
    clear H1
    obtain ⟨i, rfl, hin, H1⟩ := hrel
    by_cases hi : i < n
    · have hi' : (i : Int) < (n : Int) := by omega
      obtain ⟨o, ho⟩ : ∃ o, L[i]? = some o := ⟨_, List.getElem?_eq_getElem (by have := HS.out.1; omega)⟩
      have HC : Hid (∀ W, Below w.heap.size w W → ∃ gs f, q = some ⟨gs, f, none⟩ ∧ W.cell? ⟨gs, f + i, none⟩ = some (.slice o.p o.n o.c)) := fun W hW => by
        obtain ⟨⟨gs', f', e, t0⟩, _⟩ := HS.out.2 i o ho
        exact ⟨gs', f', e, cell_below t0 hW⟩
      have HO : Hid (o.n = o.bs.length ∧ ∀ W, Below w.heap.size w W → ∀ k x : Nat, o.bs[k]? = some x → x < 256 ∧ ∃ g f, o.p = some ⟨g, f, none⟩ ∧ W.cell? ⟨g, f + k, none⟩ = some (.int .u8 x)) := by
        obtain ⟨_, h4, h5, _⟩ := HS.out.2 i o ho
        refine ⟨h4, fun W hW k x hx => ?_⟩
        obtain ⟨h6, g, f, e, h7⟩ := h5 k x hx
        exact ⟨h6, g, f, e, cell_below h7 hW⟩
      have hom : o.n ≤ 9223372036854775807 := by have := (HS.out.2 i o ho).2.2.2; unfold maxLen at this; omega
      have HBL : Hid (Below w.heap.size w wr) := by obtain ⟨g, h1, _⟩ := H1.out.g; exact h1.bl
      have HL0 : Hid (0 = (prn i o.bs 0).length ∧ IRow wr.heap.size wr (.slice none 0 0) (prn i o.bs 0) ∧ Below wr.heap.size wr wr ∧ 0 ≤ o.n) := ⟨rfl, IRow.nil _ _, Below.refl _ _, Nat.zero_le _⟩
      generalize o.p = op at *
      generalize o.n = on at *
      generalize o.c = oc at *
      clear ho
      go_wp2_with fail
      obtain ⟨W0, hW0⟩ : ∃ W0, W0 = wr := ⟨_, rfl⟩
      rw [← hW0] at H1 HBL HL0
      go_loopw [7, 8] (fun t6 t7 wx => ∃ (k : Nat) (p2 : Option Addr) (m2 c2 : Nat), t6 = .slice p2 m2 c2 ∧ t7 = .int .i64 k ∧ k ≤ 5 ∧ m2 ≤ 5 ∧ Hid (m2 = (prn i o.bs k).length ∧ IRow W0.heap.size wx (.slice p2 m2 c2) (prn i o.bs k) ∧ Below W0.heap.size W0 wx ∧ k ≤ on ∧ (i = 0 → k = 0))) (fun _ t7 _ => 5 - (intOf t7).toNat)
      case atStart => exact ⟨0, none, 0, 0, rfl, rfl, Nat.zero_le _, Nat.zero_le _, by rw [← hW0]; exact ⟨HL0.out.1, HL0.out.2.1, HL0.out.2.2.1, HL0.out.2.2.2, fun _ => rfl⟩⟩
      case round =>
        clear HL0 hW0
        obtain ⟨k, p2, m2, c2, rfl, rfl, hk5, hm5, HL⟩ := hrel
        have hbl : Below w.heap.size w wr := HBL.out.trans (HL.out.2.2.1.mono HBL.out.size)
        obtain ⟨gs, f, rfl, s0⟩ := HC.out wr hbl
        by_cases hgo : k < on ∧ k < 5 ∧ 0 < i
        · obtain ⟨g1, g2, g3⟩ := hgo
          have g1' : (k : Int) < (on : Int) := by omega
          have g2' : (k : Int) < 5 := by omega
          have g3' : (0 : Int) < (i : Int) := by omega
          have g1d : decide ((k : Int) < (on : Int)) = true := decide_eq_true g1'
          have g2d : decide ((k : Int) < 5) = true := decide_eq_true g2'
          have g3d : decide ((0 : Int) < (i : Int)) = true := decide_eq_true g3'
          have g3n : decide (0 < i) = true := decide_eq_true g3
          have hi0 : ¬ (i : Int) = 0 := by omega
          obtain ⟨b, hb⟩ : ∃ b, o.bs[k]? = some b := ⟨_, List.getElem?_eq_getElem (by have := HO.out.1; omega)⟩
          obtain ⟨hb256, gb2, fb2, rfl, cb⟩ := HO.out.2 wr hbl k b hb
          obtain ⟨r, hr⟩ : ∃ r, r = b % i := ⟨_, rfl⟩
          have r1 : (b : Int).tmod (i : Int) = (r : Int) := by rw [Int.tmod_eq_emod_of_nonneg (by omega), hr]; simp
          have r2 : (b : Int) % (i : Int) = (r : Int) := by rw [hr]; simp
          have hri : r < i := by rw [hr]; exact Nat.mod_lt _ g3
          obtain ⟨V, hV⟩ : ∃ V : Nat, V = 1 + r := ⟨_, rfl⟩
          have v1 : (1 : Int) + (r : Int) = (V : Int) := by omega
          have v2 : IntKind.i64.wrap ((1 : Int) + (r : Int)) = (V : Int) := by rw [IntKind.wrap_i64]; omega
          have hV9 : V ≤ 1000 := by omega
          have w3' := wr_nat V hV9
          have HE : Hid (prn i o.bs (k + 1) = prn i o.bs k ++ [(V : Int)]) := by
            show prn i o.bs (k + 1) = _
            rw [prn_succ hb, ← hr, v1]
          have HK : Hid (k < on ∧ 0 < i ∧ k < 5) := ⟨g1, g3, g2⟩
          have HOo : Hid (IRow W0.heap.size (wr.alloc (.cells #[.int .i64 V] 2)) (.slice p2 m2 c2) (prn i o.bs k)) := HL.out.2.1.below ((Below.refl _ _).alloc (Nat.le_refl _) _)
          have HV : Hid ((wr.alloc (.cells #[.int .i64 V] 2)).cell? ⟨wr.heap.size, 0, none⟩ = some (.int .i64 V)) := by show World.cell? _ _ = _; rw [cell_of new0]; rfl
          have HB4 : Hid (Below W0.heap.size W0 (wr.alloc (.cells #[.int .i64 V] 2))) := HL.out.2.2.1.alloc HL.out.2.2.1.size _
          clear hb hr hri hV hV9 hbl g1 g2 g3
          go_wp2_with (at_builtin; refine append_one (wr := wr.alloc (.cells #[.int .i64 V] 2)) (B := W0.heap.size) rfl _ _ rfl p2 m2 c2 (prn i o.bs k) V rfl HOo.out HB4.out.size wr.heap.size 1 rfl HV.out (by omega) ?_; intro g7 c7 w7 R7 hB7)
          clear w3' v1 v2 r1 r2
          have hk := HK.out
          have hml : m2 + 1 = (prn i o.bs (k + 1)).length := by rw [HE.out, List.length_append, ← HL.out.1]; rfl
          refine ⟨⟨k + 1, _, m2 + 1, c7, rfl, by simp, by omega, by have := prn_len i o.bs (k + 1); omega, hml, by rw [HE.out]; exact R7, HB4.out.trans hB7, by omega, fun e => by omega⟩, ?_⟩
          simp [intOf]
          omega
        · have HX : Hid (F1 w wr gb i ∧ (∀ y ∈ prn i o.bs k, 1 ≤ y ∧ y ≤ (i : Int)) ∧ m2 = (prn i o.bs k).length ∧ AI wr p2 (prn i o.bs k)) := by
            refine ⟨H1.out.grow HL.out.2.2.1, ?_, HL.out.1, HL.out.2.1.ai⟩
            by_cases e : i = 0
            · have := HL.out.2.2.2.2 e
              subst this
              intro y hy
              simp [prn] at hy
            · exact prn_mem (by omega)
          obtain ⟨J, hJ⟩ : ∃ J : Nat, J = i + 1 := ⟨_, rfl⟩
          have j1 : (i : Int) + 1 = (J : Int) := by omega
          have hJ9 : J ≤ 1000 := by omega
          have jw := wr_nat J hJ9
          have H15 : Hid (Calls Try.prog 15 #[.pointer (some ⟨gb, 0, none⟩), .int .i64 J, .slice p2 m2 c2] wr fun e w' => ∃ a er, e = .returned (.tuple #[.bool a, .int .i64 er]) ∧ Hid (F1 w w' gb (i + 1))) := by
            obtain ⟨g, h1, h2⟩ := HX.out.1.g
            refine (add_any h1.gr J p2 m2 c2 _ HX.out.2.2.1 HX.out.2.2.2 (by omega)).mono ?_
            rintro e w' ⟨a, er, rfl, g', r1, r2, r3⟩
            rw [hJ] at r1
            obtain ⟨_, _, _, e4⟩ := h2.add (by omega) HX.out.2.1 r1
            exact ⟨a, er, rfl, g', h1.kp r3 r2, e4⟩
          have HIN : Hid (i < n) := hi
          have hG : (¬ k < on) ∨ (k < on ∧ ¬ k < 5) ∨ (k < on ∧ k < 5 ∧ ¬ 0 < i) := by omega
          clear HX HL hgo hbl H1 HBL hJ hJ9
          have S3 : (decide ((k : Int) < (on : Int)) = false) ∨ (decide ((k : Int) < (on : Int)) = true ∧ decide ((k : Int) < 5) = false) ∨ (decide ((k : Int) < (on : Int)) = true ∧ decide ((k : Int) < 5) = true ∧ i = 0) := by
            rcases hG with q | ⟨q1, q2⟩ | ⟨q1, q2, q3⟩
            · exact .inl (decide_eq_false (by omega))
            · exact .inr (.inl ⟨decide_eq_true (by omega), decide_eq_false (by omega)⟩)
            · exact .inr (.inr ⟨decide_eq_true (by omega), decide_eq_true (by omega), by omega⟩)
          clear hG
          rcases S3 with d1 | ⟨d1, d2⟩ | ⟨d1, d2, hi0⟩
          all_goals try have d3 : decide ((0 : Int) < (i : Int)) = false := decide_eq_false (by omega)
          all_goals try have d4 : decide (0 < i) = false := decide_eq_false (by omega)
          all_goals try have d5 : ¬ (0 : Int) < (i : Int) := by omega
          all_goals try have c1 : ¬ k < on := fun q => by simp at d1; omega
          all_goals try have c2 : decide (k < on) = false := decide_eq_false c1
          all_goals try have c3 : ¬ (k : Int) < (on : Int) := by omega
          all_goals try have d6 : ¬ 0 < i := by omega
          all_goals try have d7 : ¬ k < 5 := fun q => by simp at d2; omega
          all_goals try have d8 : decide (k < 5) = false := decide_eq_false d7
          all_goals try have d9 : ¬ (k : Int) < 5 := by omega
          all_goals try clear hi0
          all_goals go_wp2_with (go_at_call 15; refine H15.out.mono ?_; rintro e w4 ⟨a, er, rfl, h4⟩)
          all_goals
            have hin := HIN.out
            refine ⟨⟨i + 1, by simp [j1], by omega, h4.out⟩, ?_⟩
            simp [intOf]
            omega
    · have hi' : ¬ (i : Int) < (n : Int) := by omega
      have H2 : Hid (∃ g, PG w wr gb g ∧ Gi g n) := by
        have e : i = n := by omega
        subst e
        exact H1.out.g
      clear H1 HS
      obtain ⟨r, hr⟩ : ∃ r, r = z % n := ⟨_, rfl⟩
      have hrn : r < n := by rw [hr]; exact Nat.mod_lt _ hn0
      have hnz : ¬ (n : Int) = 0 := by omega
      have r1 : (z : Int).tmod (n : Int) = (r : Int) := by rw [Int.tmod_eq_emod_of_nonneg (by omega), hr]; simp
      have r2 : (z : Int) % (n : Int) = (r : Int) := by rw [hr]; simp
      obtain ⟨x, hx⟩ : ∃ x : Nat, x = 1 + r := ⟨_, rfl⟩
      have x1 : (1 : Int) + (r : Int) = (x : Int) := by omega
      have x2 : IntKind.i64.wrap ((1 : Int) + (r : Int)) = (x : Int) := by rw [IntKind.wrap_i64]; omega
      have hx9 : x ≤ 1000 := by omega
      have xw := wr_nat x hx9
      have HX : Hid (1 ≤ x ∧ x ≤ n) := ⟨by omega, by omega⟩
      obtain ⟨g, hg, hG⟩ := H2.out
      have H19 : Hid (Calls Try.prog 19 #[.pointer (some ⟨gb, 0, none⟩), .int .i64 x] wr fun e w' => ∃ (p : Option Addr) (m cc : Nat), e = .returned (.tuple #[.slice p m cc, .int .i64 0]) ∧ m ≤ 101 ∧ Hid (∃ f : Nat → Bool, (∀ j, f j = true ↔ Dsc g x j) ∧ PG w w' gb (g.fails x f) ∧ IRow 0 w' (.slice p m cc) (lsI f) ∧ m = (lsI f).length)) := by
        refine (fail_any hg.gr x).mono ?_
        rintro e w' ⟨p, m, cc, er, rfl, hm, E, g', k1, k2, k3, k4, k5⟩
        have hst : g.st x = 1 := hG.a x HX.out.1 HX.out.2
        cases k1 with
        | none h1 => rw [hasB_iff.2 ⟨x, rfl, HX.out.1, by have := HX.out.2; omega, by omega⟩] at h1; cases h1
        | state y h1 h2 h3 h4 h5 =>
          have : y = x := by omega
          rw [this] at h5
          exact absurd hst h5
        | ok y f h1 h2 h3 h4 h5 =>
          have : y = x := by omega
          subst this
          exact ⟨p, m, cc, rfl, hm, f, h5, hg.kp k5 k4, k3.mono (Nat.zero_le _), k2⟩
      have HGI : Hid (Gi g n) := hG
      clear hr hrn hx hx9 H2 hg hG
      go_upto_region 14 with fail
      rw [xw]
      clear r1 r2 x1 x2 xw
      go_upto_region 15 with (go_at_call 19; refine H19.out.mono ?_; rintro e w4 ⟨p, m, cc, rfl, hm, h4⟩)
      clear H19
      obtain ⟨f, hf, hP, hR, hml⟩ := h4.out
      have HF : Hid ((∀ j, f j = true ↔ Dsc g x j) ∧ m = (lsI f).length) := ⟨hf, hml⟩
      have HK0 : Hid (F2 w (w4.alloc (.cells #[.int .i64 x] 2)) gb g n x f (.slice p m cc) m w4.heap.size (.slice (some ⟨w4.heap.size, 0, none⟩) 1 1) 1 0) := by
        have hb : Below w4.heap.size w4 (w4.alloc (.cells #[.int .i64 x] 2)) := (Below.refl _ _).alloc (Nat.le_refl _) _
        refine ⟨hP.grow hb, hR.below hb, hml, fun k e => hR.lt e, ⟨hP.gr.lt, hP.bl.size, hb.size⟩, ⟨rfl, .inr ⟨w4.heap.size, 1, #[.int .i64 x], rfl, Nat.le_refl _, new0, by simp, by unfold maxLen; omega, rfl, rfl⟩⟩, rfl⟩
      clear h4 hf hP hR hml
      go_upto_region 18 with fail
      generalize w4.alloc (.cells #[.int .i64 x] 2) = W5 at *
      generalize w4.heap.size = B at *
      go_wp2_with fail
      go_loopw [12, 13] (fun t12 t13 wr => ∃ (j : Nat) (p2 : Option Addr) (m2 c2 : Nat), t12 = .slice p2 m2 c2 ∧ t13 = .int .i64 j ∧ j ≤ m ∧ m2 ≤ j + 1 ∧ Hid (F2 w wr gb g n x f (.slice p m cc) m B (.slice p2 m2 c2) m2 j)) (fun _ t13 _ => m - (intOf t13).toNat)
      case atStart => exact ⟨0, _, 1, 1, rfl, rfl, Nat.zero_le _, by omega, HK0.out⟩
      case round =>
        clear HK0
        obtain ⟨j, p2, m2, c2, rfl, rfl, hjm, hm2, HK⟩ := hrel
        have hK := HK.out
        by_cases hj : j < m
        · have hj' : (j : Int) < (m : Int) := by omega
          obtain ⟨y, hy⟩ : ∃ y, (lsI f)[j]? = some y := ⟨_, List.getElem?_eq_getElem (by have := HF.out.2; omega)⟩
          obtain ⟨gy, cy9, e9⟩ := hK.r.row (by have := HF.out.2; omega)
          injection e9 with e9 e10 e11
          clear e10 e11
          subst e9
          have cy := hK.r.cell hy
          have hyx : y ≠ (x : Int) := fun e => by
            obtain ⟨k, e1, _, hk⟩ := mem_lsI.1 (List.mem_of_getElem? hy)
            have := ((HF.out.1 k).1 hk).ne
            omega
          have hyb : (y == (x : Int)) = false := by simpa using hyx
          have HTK : Hid ((x : Int) :: (lsI f).take (j + 1) = ((x : Int) :: (lsI f).take j) ++ [y]) := by
            show _ = _
            rw [List.take_add_one, hy]
            rfl
          have HOo : Hid (∀ W : World, W.heap = wr.heap → IRow B (W.alloc (.cells #[.int .i64 y] 2)) (.slice p2 m2 c2) ((x : Int) :: (lsI f).take j)) := fun W hW => (hK.r2.keep fun _ _ => by rw [hW]).below ((Below.refl _ _).alloc (Nat.le_refl _) _)
          have HHK : Hid (F2 w wr gb g n x f (.slice (some ⟨gy, 0, none⟩) m cc) m B (.slice p2 m2 c2) m2 j) := hK
          have hstep : Hid (∀ (W : World), W.heap = wr.heap → Below wr.heap.size wr W → F2 w W gb g n x f (.slice (some ⟨gy, 0, none⟩) m cc) m B (.slice p2 m2 c2) m2 j) := fun W hW hb => ⟨hK.pg.grow hb, hK.r.below hb, hK.n, hK.l, ⟨hK.b.1, hK.b.2.1, Nat.le_trans hK.b.2.2 hb.size⟩, hK.r2.below hb, hK.m⟩
          by_cases hj0 : j = 0
          · have z1 : ¬ 0 < j := by omega
            have z2 : decide (0 < j) = false := decide_eq_false z1
            have z3 : ¬ (0 : Int) < (j : Int) := by omega
            have z4 : decide ((0 : Int) < (j : Int)) = false := decide_eq_false z3
            clear hy hyx hj0 hK HK
            go_upto_region 21 with fail
            go_quiet (fail)
            go_upto_region 23 with fail
            have HK9 : Hid (F2 w (wr.drewN nq) gb g n x f (.slice (some ⟨gy, 0, none⟩) m cc) m B (.slice p2 m2 c2) m2 j) := hstep.out _ rfl (below_drewN (Below.refl _ _) _)
            have cy9 : (wr.drewN nq).cell? ⟨gy, j, none⟩ = some (.int .i64 y) := cy
            clear hstep HHK HOo cy
            generalize wr.drewN nq = W9 at *
            have HOo : Hid (IRow B (W9.alloc (.cells #[.int .i64 y] 2)) (.slice p2 m2 c2) ((x : Int) :: (lsI f).take j)) := HK9.out.r2.below ((Below.refl _ _).alloc (Nat.le_refl _) _)
            have HV : Hid ((W9.alloc (.cells #[.int .i64 y] 2)).cell? ⟨W9.heap.size, 0, none⟩ = some (.int .i64 y)) := by show World.cell? _ _ = _; rw [cell_of new0]; rfl
            have HB4 : Hid (Below B W9 (W9.alloc (.cells #[.int .i64 y] 2)) ∧ B ≤ (W9.alloc (.cells #[.int .i64 y] 2)).heap.size) := ⟨(Below.refl _ _).alloc HK9.out.b.2.2 _, by have := HK9.out.b.2.2; simp; omega⟩
            go_wp2_with (at_builtin; refine append_one (wr := W9.alloc (.cells #[.int .i64 y] 2)) (B := B) rfl _ _ rfl p2 m2 c2 ((x : Int) :: (lsI f).take j) y rfl HOo.out HB4.out.2 W9.heap.size 1 rfl HV.out (by omega) ?_; intro g7 c7 w7 R7 hB7)
            have hb7 : Below B W9 w7 := HB4.out.1.trans hB7
            have hbB := HK9.out.b
            refine ⟨⟨j + 1, _, m2 + 1, c7, rfl, by simp, by omega, by omega, ⟨HK9.out.pg.gr.below hb7 hbB.1, HK9.out.pg.bl.trans (hb7.mono hbB.2.1), HK9.out.pg.nb⟩, HK9.out.r.keep fun k e => hb7.block k (HK9.out.l k e), HK9.out.n, HK9.out.l, ⟨hbB.1, hbB.2.1, Nat.le_trans hbB.2.2 hb7.size⟩, by rw [HTK.out]; exact R7, by have := HK9.out.m; omega⟩, ?_⟩
            simp [intOf]
            omega
          · obtain ⟨l, hl⟩ : ∃ l, j = l + 1 := ⟨j - 1, by omega⟩
            obtain ⟨y0, hy0⟩ : ∃ y0, (lsI f)[l]? = some y0 := ⟨_, List.getElem?_eq_getElem (by have := HF.out.2; omega)⟩
            have cy0 := hK.r.cell hy0
            have hlt : y0 < y := (lsI_ris f).lt (show l < j by omega) hy0 hy
            have l1 : ¬ y ≤ y0 := by omega
            have l2 : decide (y ≤ y0) = false := decide_eq_false l1
            have l3 : (j : Int) - 1 = (l : Int) := by omega
            have l4 : (l : Int) < (m : Int) := by omega
            have l5 : IntKind.i64.wrap ((j : Int) - 1) = (l : Int) := by rw [IntKind.wrap_i64]; omega
            have z1 : 0 < j := by omega
            have z2 : decide (0 < j) = true := decide_eq_true z1
            have z3 : (0 : Int) < (j : Int) := by omega
            have z4 : decide ((0 : Int) < (j : Int)) = true := decide_eq_true z3
            clear hy hyx hj0 hK HK hy0 hl
            go_upto_region 21 with fail
            go_quiet (fail)
            go_upto_region 23 with fail
            have HK9 : Hid (F2 w (wr.drewN nq) gb g n x f (.slice (some ⟨gy, 0, none⟩) m cc) m B (.slice p2 m2 c2) m2 j) := hstep.out _ rfl (below_drewN (Below.refl _ _) _)
            have cy9 : (wr.drewN nq).cell? ⟨gy, j, none⟩ = some (.int .i64 y) := cy
            clear hstep HHK HOo cy
            generalize wr.drewN nq = W9 at *
            have HOo : Hid (IRow B (W9.alloc (.cells #[.int .i64 y] 2)) (.slice p2 m2 c2) ((x : Int) :: (lsI f).take j)) := HK9.out.r2.below ((Below.refl _ _).alloc (Nat.le_refl _) _)
            have HV : Hid ((W9.alloc (.cells #[.int .i64 y] 2)).cell? ⟨W9.heap.size, 0, none⟩ = some (.int .i64 y)) := by show World.cell? _ _ = _; rw [cell_of new0]; rfl
            have HB4 : Hid (Below B W9 (W9.alloc (.cells #[.int .i64 y] 2)) ∧ B ≤ (W9.alloc (.cells #[.int .i64 y] 2)).heap.size) := ⟨(Below.refl _ _).alloc HK9.out.b.2.2 _, by have := HK9.out.b.2.2; simp; omega⟩
            go_wp2_with (at_builtin; refine append_one (wr := W9.alloc (.cells #[.int .i64 y] 2)) (B := B) rfl _ _ rfl p2 m2 c2 ((x : Int) :: (lsI f).take j) y rfl HOo.out HB4.out.2 W9.heap.size 1 rfl HV.out (by omega) ?_; intro g7 c7 w7 R7 hB7)
            have hb7 : Below B W9 w7 := HB4.out.1.trans hB7
            have hbB := HK9.out.b
            refine ⟨⟨j + 1, _, m2 + 1, c7, rfl, by simp, by omega, by omega, ⟨HK9.out.pg.gr.below hb7 hbB.1, HK9.out.pg.bl.trans (hb7.mono hbB.2.1), HK9.out.pg.nb⟩, HK9.out.r.keep fun k e => hb7.block k (HK9.out.l k e), HK9.out.n, HK9.out.l, ⟨hbB.1, hbB.2.1, Nat.le_trans hbB.2.2 hb7.size⟩, by rw [HTK.out]; exact R7, by have := HK9.out.m; omega⟩, ?_⟩
            simp [intOf]
            omega
        · have hj' : ¬ (j : Int) < (m : Int) := by omega
          have HK1 : Hid (PG w wr gb (g.fails x f) ∧ IRow B wr (.slice p2 m2 c2) ((x : Int) :: lsI f) ∧ m2 = ((x : Int) :: lsI f).length ∧ m2 ≤ 102) := by
            have h1 := hK.r2
            have h2 := hK.m
            have h3 := hK.n
            rw [List.take_of_length_le (by omega)] at h1
            exact ⟨hK.pg, h1, by simp; omega, by omega⟩
          clear hK HK
          have hm102 : m2 ≤ 102 := HK1.out.2.2.2
          go_wp2_with fail
          go_loopw [14] (fun t14 wr => ∃ i : Nat, t14 = .int .i64 i ∧ 1 ≤ i ∧ i ≤ n + 1 ∧ Hid (PG w wr gb (g.fails x f) ∧ IRow B wr (.slice p2 m2 c2) ((x : Int) :: lsI f) ∧ m2 = ((x : Int) :: lsI f).length)) (fun t14 _ => n + 1 - (intOf t14).toNat)
          case atStart => exact ⟨1, rfl, Nat.le_refl _, by omega, HK1.out.1, HK1.out.2.1, HK1.out.2.2.1⟩
          case round =>
            clear HK1
            obtain ⟨i, rfl, hi1, hin1, HK⟩ := hrel
            by_cases hi : i ≤ n
            · have hi' : (i : Int) ≤ (n : Int) := by omega
              have H16 : Hid (Calls Try.prog 16 #[.pointer (some ⟨gb, 0, none⟩), .int .i64 i] wr fun e w' => ∃ (p4 : Option Addr) (n4 c4 : Nat) (er : Int), e = .returned (.tuple #[.slice p4 n4 c4, .int .i64 er]) ∧ n4 ≤ 101 ∧ Hid (PG w w' gb (g.fails x f) ∧ IRow B w' (.slice p2 m2 c2) ((x : Int) :: lsI f) ∧ m2 = ((x : Int) :: lsI f).length ∧ n4 = (lsI (g.ps i)).length ∧ AI w' p4 (lsI (g.ps i)))) := by
                refine (par_any HK.out.1.gr i).mono ?_
                rintro e w' ⟨p4, n4, c4, er, rfl, hn4, E, g', k1, k2, k3, k4, k5⟩
                have hst : (g.fails x f).st i ≠ 0 := by
                  unfold GS.fails
                  simp only []
                  split
                  · omega
                  · rw [HGI.out.a i hi1 hi]; omega
                obtain ⟨rfl, _, rfl, _⟩ := k1.uniq (.ok i rfl hi1 (by omega) hst)
                exact ⟨p4, n4, c4, er, rfl, hn4, HK.out.1.kp k5 k4, irow_gb HK.out.2.1 HK.out.1.gr k5, HK.out.2.2, k2, k3.ai⟩
              have HCL : Hid ((i = x ∨ ∃ y ∈ lsI (g.ps i), y ∈ (x : Int) :: lsI f) ↔ (i : Int) ∈ (x : Int) :: lsI f) := closed HGI.out hn1 HF.out.1 (by have := HX.out; omega) hi1 hi
              obtain ⟨u0, hu0⟩ : ∃ u0, u0 = ((i : Int) == (x : Int)) := ⟨_, rfl⟩
              have hu0' : ((i : Int) == (x : Int)) = u0 := hu0.symm
              have HU0 : Hid (u0 = true ↔ i = x) := by
                show u0 = true ↔ i = x
                rw [hu0]
                simp
                omega
              clear HK hu0
              go_upto_region 28 with (go_at_call 16; refine H16.out.mono ?_; rintro e w5 ⟨p4, n4, c4, er, rfl, hn4, h5⟩)
              clear H16
              go_upto_region 29 with fail
              clear hu0'
              have HQ : Hid (PG w w5 gb (g.fails x f) ∧ IRow B w5 (.slice p2 m2 c2) ((x : Int) :: lsI f) ∧ m2 = ((x : Int) :: lsI f).length ∧ n4 = (lsI (g.ps i)).length ∧ AI w5 p4 (lsI (g.ps i))) := h5.out
              have HIn : Hid (∀ y : Int, Calls Try.prog 17 #[.slice p2 m2 c2, .int .i64 y] w5 fun e w' => e = .returned (.bool (inB ((x : Int) :: lsI f) y)) ∧ w' = w5) := fun y => in_any w5 p2 m2 c2 _ y HQ.out.2.2.1 HQ.out.2.1.ai (by omega)
              clear h5
              go_wp2_with fail
              go_loopw [17, 18] (fun t17 t18 wx => ∃ (k : Nat) (uv : Bool), t17 = .bool uv ∧ t18 = .int .i64 k ∧ k ≤ n4 ∧ wx = w5 ∧ Hid (uv = true ↔ (i = x ∨ ∃ (j : Nat) (y : Int), j < k ∧ (lsI (g.ps i))[j]? = some y ∧ y ∈ (x : Int) :: lsI f))) (fun _ t18 _ => n4 - (intOf t18).toNat)
              case atStart =>
                refine ⟨0, u0, by first | rfl | simp_all, rfl, Nat.zero_le _, rfl, HU0.out.trans ⟨fun h => .inl h, fun h => ?_⟩⟩
                rcases h with h | ⟨j, _, hj, _⟩
                · exact h
                · omega
              case round =>
                clear HU0
                obtain ⟨k, uv, rfl, rfl, hk4, rfl, HU⟩ := hrel
                by_cases hk : k < n4
                · have hk' : (k : Int) < (n4 : Int) := by omega
                  obtain ⟨y, hy⟩ : ∃ y, (lsI (g.ps i))[k]? = some y := ⟨_, List.getElem?_eq_getElem (by have := HQ.out.2.2.2.1; omega)⟩
                  obtain ⟨gy, oy, rfl, cy⟩ := HQ.out.2.2.2.2 k y hy
                  obtain ⟨b1, hb1⟩ : ∃ b1, b1 = inB ((x : Int) :: lsI f) y := ⟨_, rfl⟩
                  have H17 : Hid (Calls Try.prog 17 #[.slice p2 m2 c2, .int .i64 y] wr fun e w' => e = .returned (.bool b1) ∧ w' = wr) := by rw [hb1]; exact HIn.out y
                  have HN : Hid ((uv || b1) = true ↔ (i = x ∨ ∃ (j : Nat) (y : Int), j < k + 1 ∧ (lsI (g.ps i))[j]? = some y ∧ y ∈ (x : Int) :: lsI f)) := by
                    show _ ↔ _
                    rw [Bool.or_eq_true, HU.out, hb1, inB_iff]
                    constructor
                    · rintro ((r | ⟨j, u, r1, r2, r3⟩) | r)
                      · exact .inl r
                      · exact .inr ⟨j, u, by omega, r2, r3⟩
                      · exact .inr ⟨k, y, by omega, hy, r⟩
                    · rintro (r | ⟨j, u, r1, r2, r3⟩)
                      · exact .inl (.inl r)
                      · by_cases e : j = k
                        · subst e; rw [hy] at r2; cases r2; exact .inr r3
                        · exact .inl (.inr ⟨j, u, by omega, r2, r3⟩)
                  clear hb1 hy HU
                  cases uv
                  · go_wp2_with (go_at_call 17; refine H17.out.mono ?_; rintro e w6 ⟨rfl, rfl⟩)
                    refine ⟨⟨k + 1, b1, rfl, by simp, by omega, by first | rfl | trivial, by have := HN.out; rwa [Bool.false_or] at this⟩, ?_⟩
                    simp [intOf]
                    omega
                  · go_wp2_with fail
                    refine ⟨⟨k + 1, true, rfl, by simp, by omega, by first | rfl | trivial, by have := HN.out; rwa [Bool.true_or] at this⟩, ?_⟩
                    simp [intOf]
                    omega
                · have hk' : ¬ (k : Int) < (n4 : Int) := by omega
                  have HEQ : Hid (inB ((x : Int) :: lsI f) (i : Int) = uv) := by
                    have h1 : uv = true ↔ inB ((x : Int) :: lsI f) (i : Int) = true := by
                      rw [HU.out, inB_iff, ← HCL.out]
                      refine or_congr Iff.rfl ⟨fun ⟨j, y, _, r2, r3⟩ => ⟨y, List.mem_of_getElem? r2, r3⟩, fun ⟨y, r2, r3⟩ => ?_⟩
                      obtain ⟨j, hj⟩ := List.getElem?_of_mem r2
                      exact ⟨j, y, by have := (List.getElem?_eq_some_iff.1 hj).1; have := HQ.out.2.2.2.1; omega, hj, r3⟩
                    show _ = _
                    cases e1 : uv <;> cases e2 : inB ((x : Int) :: lsI f) (i : Int) <;> simp_all
                  have H17 : Hid (Calls Try.prog 17 #[.slice p2 m2 c2, .int .i64 i] wr fun e w' => e = .returned (.bool uv) ∧ w' = wr) := by
                    have := HIn.out i
                    rw [HEQ.out] at this
                    exact this
                  clear HU HEQ HIn
                  go_wp2_with (go_at_call 17; refine H17.out.mono ?_; rintro e w6 ⟨rfl, rfl⟩)
                  refine ⟨⟨i + 1, by simp, by omega, by omega, HQ.out.1, HQ.out.2.1, HQ.out.2.2.1⟩, ?_⟩
                  simp [intOf]
                  omega
            · have hi' : ¬ (i : Int) ≤ (n : Int) := by omega
              have H19 : Hid (Calls Try.prog 19 #[.pointer (some ⟨gb, 0, none⟩), .int .i64 x] wr fun e w' => ∃ (p4 : Option Addr) (n4 c4 : Nat), e = .returned (.tuple #[.slice p4 n4 c4, .int .i64 10]) ∧ Hid (Below w.heap.size w w')) := by
                refine (fail_any HK.out.1.gr x).mono ?_
                rintro e w' ⟨p4, n4, c4, er, rfl, hn4, E, g', k1, k2, k3, k4, k5⟩
                have hst : (g.fails x f).st x = 3 := by unfold GS.fails; simp
                obtain ⟨_, rfl, _⟩ := k1.uniq (.state x rfl HX.out.1 (by have := HX.out; omega) (by omega) (by omega))
                exact ⟨p4, n4, c4, rfl, (HK.out.1.kp k5 k4).bl⟩
              clear HK
              go_wp2_with (go_at_call 19; refine H19.out.mono ?_; rintro e w6 ⟨p4, n4, c4, rfl, h6⟩)
              go_ret
              exact ⟨rfl, h6.out⟩
end Go.Proofs.Ytodldfgoieikcaa
