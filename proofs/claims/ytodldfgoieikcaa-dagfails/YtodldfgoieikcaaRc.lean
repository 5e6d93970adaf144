/-
  The reference's Above.
-/
import Derived.Test.YtodldfgoieikcaaRb
namespace Go.Proofs.Ytodldfgoieikcaa
open Go.RowKit Go.Maps

theorem stI_cons (x : Nat) (F : List Int) : stI ((x : Int) :: F) = sset (stI F) x true := by
  funext j
  unfold stI sset
  by_cases e : j = x
  · subst e; rw [if_pos rfl, inB_iff]; simp
  · rw [if_neg e]
    show inB ((x : Int) :: F) (j : Int) = inB F (j : Int)
    cases h : inB F (j : Int)
    · rw [inB_no] at h ⊢
      simp
      exact ⟨by omega, h⟩
    · rw [inB_iff] at h ⊢
      exact List.mem_cons_of_mem _ h
theorem nodup_cnt : ∀ {F : List Int}, F.Nodup → (∀ x ∈ F, isN x = true) → cnt (stI F) + F.length = 101
  | [], _, _ => by
    rw [stI_nil]
    unfold cnt
    have : (List.range 101).filter (fun i => !s0 i) = List.range 101 := List.filter_eq_self.2 fun x _ => rfl
    rw [this]
    simp
  | x :: F, hd, hN => by
    rw [List.nodup_cons] at hd
    obtain ⟨i, rfl, h1, h2⟩ := isN_nat (hN x (by simp))
    have ih := nodup_cnt hd.2 fun y hy => hN y (List.mem_cons_of_mem _ hy)
    have hs : stI F i = false := by unfold stI; rw [inB_no]; exact hd.1
    have := cnt_less h2 hs
    rw [stI_cons, List.length_cons]
    omega
theorem nodup_len {F : List Int} (hd : F.Nodup) (hN : ∀ x ∈ F, isN x = true) : F.length ≤ 100 := by
  have h1 := nodup_cnt hd hN
  have h0 : stI F 0 = false := by
    unfold stI
    rw [inB_no]
    intro h
    have := isN_iff.1 (hN _ h)
    omega
  have := cnt_less (by omega : 0 < 101) h0
  omega
theorem nodup_snoc {F : List Int} {x : Int} (hd : F.Nodup) (hx : x ∉ F) : (F ++ [x]).Nodup := by
  rw [List.nodup_append]
  refine ⟨hd, by simp, fun a ha b hb => ?_⟩
  simp at hb
  subst hb
  exact fun e => hx (e ▸ ha)
/-- while the numbers themselves are gathered -/
structure Ga (E : List Int) (i : Nat) (F : List Int) : Prop where
  d : F.Nodup
  m : ∀ x, x ∈ F ↔ ∃ j, j < i ∧ E[j]? = some x
theorem Ga.old {E : List Int} {i : Nat} {F : List Int} {x : Int} (h : Ga E i F) (hx : E[i]? = some x) (hm : x ∈ F) : Ga E (i + 1) F := by
  refine ⟨h.d, fun y => ?_⟩
  rw [h.m]
  constructor
  · rintro ⟨j, h1, h2⟩; exact ⟨j, by omega, h2⟩
  · rintro ⟨j, h1, h2⟩
    by_cases e : j = i
    · subst e; rw [hx] at h2; cases h2; exact (h.m x).1 hm
    · exact ⟨j, by omega, h2⟩
theorem Ga.new {E : List Int} {i : Nat} {F : List Int} {x : Int} (h : Ga E i F) (hx : E[i]? = some x) (hm : x ∉ F) : Ga E (i + 1) (F ++ [x]) := by
  refine ⟨nodup_snoc h.d hm, fun y => ?_⟩
  rw [List.mem_append, h.m]
  simp only [List.mem_singleton]
  constructor
  · rintro (⟨j, h1, h2⟩ | rfl)
    · exact ⟨j, by omega, h2⟩
    · exact ⟨i, by omega, hx⟩
  · rintro ⟨j, h1, h2⟩
    by_cases e : j = i
    · subst e; rw [hx] at h2; cases h2; exact .inr rfl
    · exact .inl ⟨j, by omega, h2⟩
/-- while what is above them is gathered: the first i are looked at; of what stands at i the first j parents -/
structure Gb (ps : Nat → Nat → Bool) (E : List Int) (F : List Int) (i : Nat) : Prop where
  d : F.Nodup
  r : ∀ x ∈ F, ∃ n : Nat, x = n ∧ 1 ≤ n ∧ Rch ps (stI E) n
  e : ∀ x ∈ E, x ∈ F
  c : ∀ (k n : Nat), k < i → F[k]? = some (n : Int) → ∀ j, j < 101 → ps n j = true → (j : Int) ∈ F
theorem Gb.nums {ps : Nat → Nat → Bool} {E F : List Int} {i : Nat} (h : Gb ps E F i) : ∀ x ∈ F, isN x = true := fun x hx => by
  obtain ⟨n, rfl, h1, h2⟩ := h.r x hx
  exact isN_of h1 h2.lt
theorem Gb.len {ps : Nat → Nat → Bool} {E F : List Int} {i : Nat} (h : Gb ps E F i) : F.length ≤ 100 := nodup_len h.d h.nums
theorem Ga.gb {E F : List Int} {ps : Nat → Nat → Bool} (h : Ga E E.length F) (hE : ∀ x ∈ E, isN x = true) : Gb ps E F 0 := by
  have hm : ∀ x, x ∈ F ↔ x ∈ E := fun x => by
    rw [h.m]
    constructor
    · rintro ⟨j, _, h2⟩; exact List.mem_of_getElem? h2
    · intro q
      obtain ⟨j, hj⟩ := List.getElem?_of_mem q
      exact ⟨j, (List.getElem?_eq_some_iff.1 hj).1, hj⟩
  refine ⟨h.d, fun x hx => ?_, fun x hx => (hm x).2 hx, fun k n hk => absurd hk (by omega)⟩
  obtain ⟨n, rfl, h1, h2⟩ := isN_nat (hE x ((hm x).1 hx))
  exact ⟨n, rfl, h1, .base h2 (by unfold stI; rw [inB_iff]; exact (hm _).1 hx)⟩
theorem Gb.add {ps : Nat → Nat → Bool} {E F : List Int} {i n y : Nat} (h : Gb ps E F i) (hn : F[i]? = some (n : Int)) (hy1 : 1 ≤ y) (hy : y < 101) (hp : ps n y = true) (hm : (y : Int) ∉ F) : Gb ps E (F ++ [(y : Int)]) i := by
  have hil := (List.getElem?_eq_some_iff.1 hn).1
  refine ⟨nodup_snoc h.d hm, fun x hx => ?_, fun x hx => List.mem_append_left _ (h.e x hx), fun k m hk hkm j hj hp2 => ?_⟩
  · rcases List.mem_append.1 hx with q | q
    · exact h.r x q
    · simp at q
      obtain ⟨m, e, _, h2⟩ := h.r _ (List.mem_of_getElem? hn)
      have : n = m := by omega
      exact ⟨y, q, hy1, .step (by rw [this]; exact h2) hy hp⟩
  · rw [List.getElem?_append_left (by omega)] at hkm
    exact List.mem_append_left _ (h.c k m hk hkm j hj hp2)
theorem Gb.next {ps : Nat → Nat → Bool} {E F : List Int} {i n : Nat} (h : Gb ps E F i) (hn : F[i]? = some (n : Int)) (hp : ∀ j, j < 101 → ps n j = true → (j : Int) ∈ F) : Gb ps E F (i + 1) := by
  refine ⟨h.d, h.r, h.e, fun k m hk hkm => ?_⟩
  by_cases e : k = i
  · subst e
    rw [hn] at hkm
    have : n = m := by simp at hkm; omega
    rw [← this]
    exact hp
  · exact h.c k m (by omega) hkm
theorem Gb.done {ps : Nat → Nat → Bool} {E F : List Int} (h : Gb ps E F F.length) : ∀ x, x ∈ F ↔ ∃ n : Nat, x = n ∧ Rch ps (stI E) n := by
  intro x
  constructor
  · intro hx
    obtain ⟨n, h1, _, h2⟩ := h.r x hx
    exact ⟨n, h1, h2⟩
  · rintro ⟨n, rfl, hr⟩
    induction hr with
    | base h1 h2 =>
      unfold stI at h2
      rw [inB_iff] at h2
      exact h.e _ h2
    | step h1 h2 h3 ih =>
      obtain ⟨k, hk⟩ := List.getElem?_of_mem ih
      exact h.c k _ (List.getElem?_eq_some_iff.1 hk).1 hk _ h2 h3
structure Gm (w wr : World) (v : Value) (n : Nat) (F : List Int) : Prop where
  n : n = F.length
  r : IRow w.heap.size wr v F
  b : Below w.heap.size w wr
set_option maxHeartbeats 4000000 in
set_option maxRecDepth 100000 in
theorem above_any {w : World} {bs rb : Nat} {v : Value} {R : List JB} {g : GS} (h : Rm w bs rb v R) (hr : Rel g R) (q : Option Addr) (n c : Nat) (E : List Int) (hn : n = E.length) (hE : AI w q E) (hN : ∀ x ∈ E, isN x = true) (h9 : n ≤ 1000) :
    Calls Try.prog 36 #[.pointer (some ⟨rb, 0, none⟩), .slice q n c] w fun e w' => ∃ (p : Option Addr) (m cc : Nat), e = .returned (.slice p m cc) ∧ m ≤ 100 ∧ Hid (∃ F, Gm w w' (.slice p m cc) m F ∧ ∀ x, x ∈ F ↔ ∃ n : Nat, x = n ∧ Rch g.ps (stI E) n) := by
  have HM : Hid (Rm w bs rb v R) := h
  have HR : Hid (Rel g R) := hr
  have HE : Hid (n = E.length ∧ AI w q E ∧ ∀ x ∈ E, isN x = true) := ⟨hn, hE, hN⟩
  have HIn : Hid (∀ (F : List Int) (W : World) (p : Option Addr) (m cc : Nat) (x : Int), Gm w W (.slice p m cc) m F ∧ m ≤ 1000 → Calls Try.prog 17 #[.slice p m cc, .int .i64 x] W fun e w' => e = .returned (.bool (inB F x)) ∧ w' = W) := fun F W p m cc x ⟨hG, hm⟩ => in_any W p m cc F x hG.n hG.r.ai (by omega)
  have hlt := h.lt
  clear h hr hn hE hN
  go_enter Try.func36, Try.ntmps36
  go_wp2_with fail
  go_loopw [5, 6] (fun t5 t6 wr => ∃ (i : Nat) (p : Option Addr) (m cc : Nat) (F : List Int), t5 = .slice p m cc ∧ t6 = .int .i64 i ∧ i ≤ n ∧ m ≤ i ∧ Hid (Gm w wr (.slice p m cc) m F ∧ Ga E i F)) (fun _ t6 _ => n - (intOf t6).toNat)
  case atStart => exact ⟨0, none, 0, 0, [], rfl, rfl, Nat.zero_le _, Nat.le_refl _, ⟨rfl, IRow.nil _ _, Below.refl _ _⟩, List.nodup_nil, fun x => ⟨(fun h => by cases h), (fun ⟨j, h, _⟩ => by omega)⟩⟩
  case round =>
    obtain ⟨i, p, m, cc, F, rfl, rfl, hin, hmi, HG⟩ := hrel
    by_cases hi : i < n
    · have hi' : (i : Int) < (n : Int) := by omega
      obtain ⟨x, hx⟩ : ∃ x, E[i]? = some x := ⟨_, List.getElem?_eq_getElem (by have := HE.out.1; omega)⟩
      obtain ⟨ga, go, eq, cx⟩ := HE.out.2.1.below HG.out.1.b i x hx
      subst eq
      have HI : Hid (Gm w wr (.slice p m cc) m F ∧ m ≤ 1000) := ⟨HG.out.1, by omega⟩
      cases hb : inB F x
      · have HX : Hid (Ga E (i + 1) (F ++ [x])) := HG.out.2.new hx (inB_no.1 hb)
        have HO : Hid (IRow w.heap.size (wr.alloc (.cells #[.int .i64 x] 2)) (.slice p m cc) F) := HG.out.1.r.below ((Below.refl _ _).alloc (Nat.le_refl _) _)
        have HV : Hid ((wr.alloc (.cells #[.int .i64 x] 2)).cell? ⟨wr.heap.size, 0, none⟩ = some (.int .i64 x)) := by show World.cell? _ _ = _; rw [cell_of new0]; rfl
        have HB2 : Hid (Below w.heap.size w (wr.alloc (.cells #[.int .i64 x] 2))) := HG.out.1.b.alloc HG.out.1.b.size _
        clear hx
        go_upto_region 6 with (go_at_call 17; refine (HIn.out F wr p m cc x HI.out).mono ?_; rintro e w1 ⟨rfl, rfl⟩; rw [hb])
        go_wp2_with (at_builtin; refine append_one (wr := w1.alloc (.cells #[.int .i64 x] 2)) (B := w.heap.size) rfl _ _ rfl p m cc F x rfl HO.out HB2.out.size w1.heap.size 1 rfl HV.out (by omega) ?_; intro g3 c3 w3 R3 hB3)
        refine ⟨⟨i + 1, _, m + 1, c3, F ++ [x], rfl, by simp, by omega, by omega, ⟨by rw [List.length_append, ← HG.out.1.n]; rfl, R3, HB2.out.trans hB3⟩, HX.out⟩, ?_⟩
        simp [intOf]
        omega
      · have HX : Hid (Ga E (i + 1) F) := HG.out.2.old hx (inB_iff.1 hb)
        clear hx
        go_wp2_with (go_at_call 17; refine (HIn.out F wr p m cc x HI.out).mono ?_; rintro e w1 ⟨rfl, rfl⟩; rw [hb])
        refine ⟨⟨i + 1, _, m, cc, F, rfl, by simp, by omega, by omega, HG.out.1, HX.out⟩, ?_⟩
        simp [intOf]
        omega
    · have hi' : ¬ (i : Int) < (n : Int) := by omega
      have HB : Hid (Gm w wr (.slice p m cc) m F ∧ Gb g.ps E F 0) := by
        have h2 := HG.out.2
        rw [show i = E.length by have := HE.out.1; omega] at h2
        exact ⟨HG.out.1, h2.gb HE.out.2.2⟩
      have hm9 : m ≤ 100 := by have := HB.out.2.len; have := HB.out.1.n; omega
      clear HG
      go_wp2_with fail
      go_loopw [5, 7] (fun t5 t7 wr => ∃ (i : Nat) (p : Option Addr) (m cc : Nat) (F : List Int), t5 = .slice p m cc ∧ t7 = .int .i64 i ∧ i ≤ m ∧ m ≤ 100 ∧ Hid (Gm w wr (.slice p m cc) m F ∧ Gb g.ps E F i)) (fun _ t7 _ => 101 - (intOf t7).toNat)
      case atStart => exact ⟨0, p, m, cc, F, rfl, rfl, Nat.zero_le _, hm9, HB.out⟩
      case round =>
        clear HB
        obtain ⟨i, p, m, cc, F, rfl, rfl, him, hm1, HG⟩ := hrel
        by_cases hi : i < m
        · have hi' : (i : Int) < (m : Int) := by omega
          obtain ⟨x, hx⟩ : ∃ x, F[i]? = some x := ⟨_, List.getElem?_eq_getElem (by have := HG.out.1.n; omega)⟩
          obtain ⟨ga, go, eq, cx⟩ := HG.out.1.r.ai i x hx
          subst eq
          obtain ⟨nx, rfl, hx1, hx2⟩ := HG.out.2.r x (List.mem_of_getElem? hx)
          obtain ⟨k, hk⟩ := fnd_all R (nx : Int)
          have HF : Hid (Calls Try.prog 27 #[.pointer (some ⟨rb, 0, none⟩), .int .i64 nx] wr fun e w' => e = .returned (.int .i64 k) ∧ w' = wr) := find_any (HM.out.below HG.out.1.b) hk
          rcases hk with ⟨ik, b, rfl, hb, hbid⟩ | ⟨rfl, hno⟩
          · have hbm := List.mem_of_getElem? hb
            have hbi : b.id = nx := by omega
            have hikl := (List.getElem?_eq_some_iff.1 hb).1
            obtain ⟨gg, c9, e0⟩ := HM.out.row (by omega)
            obtain ⟨nR, hnR⟩ : ∃ nR, nR = R.length := ⟨_, rfl⟩
            rw [← hnR] at e0 hikl
            have hik' : (ik : Int) < (nR : Int) := by omega
            have hik0 : decide ((0 : Int) ≤ (ik : Int)) = true := decide_eq_true (by omega)
            have hq := HM.out.ok.q b hbm
            have HP : Hid (b.n = b.ps.length ∧ AI w b.p b.ps ∧ b.ps = lsI (g.ps nx) ∧ ∀ x ∈ b.ps, isN x = true) := ⟨hq.1, (HM.out.p b hbm).ai, by rw [← hbi]; exact (HR.out.a b hbm).2, hq.2.2.2⟩
            have hbn := hq.2.1
            have HCL : Hid (∀ W, Below w.heap.size w W → W.cell? ⟨rb, 0, none⟩ = some (.slice (some ⟨gg, 0, none⟩) nR c9) ∧ W.cell? ⟨gg, ik * 3 + 1, none⟩ = some (.slice b.p b.n b.c)) := fun W hW => by
              have hM := HM.out.below hW
              refine ⟨by rw [← e0]; exact hM.cell, ?_⟩
              rw [e0] at hM
              exact (hM.cells hb).2.1
            have hR9 := HM.out.ok.len
            have HN9 : Hid (nR ≤ 100) := by show nR ≤ 100; omega
            generalize b.p = bp at *
            generalize b.n = bn at *
            generalize b.c = bc at *
            have HG1 : Hid (Gm w wr (.slice (some ⟨ga, go, none⟩) m cc) m F ∧ Gb g.ps E F i ∧ F[i]? = some (nx : Int) ∧ ∀ (t : Nat) (y : Int), t < 0 → b.ps[t]? = some y → y ∈ F) := ⟨HG.out.1, HG.out.2, hx, fun t y ht => absurd ht (by omega)⟩
            clear hx hb hbid hbm hbi hnR e0 hq HG
            go_upto_region 11 with (go_at_call 27; refine HF.out.mono ?_; rintro e w1 ⟨rfl, rfl⟩)
            clear cx HF
            go_wp2_with fail
            go_loopw [5, 9] (fun t5 t9 wx => ∃ (j : Nat) (p : Option Addr) (m' cc : Nat) (F : List Int), t5 = .slice p m' cc ∧ t9 = .int .i64 j ∧ j ≤ bn ∧ m ≤ m' ∧ m' ≤ 100 ∧ Hid (Gm w wx (.slice p m' cc) m' F ∧ Gb g.ps E F i ∧ F[i]? = some (nx : Int) ∧ ∀ (t : Nat) (y : Int), t < j → b.ps[t]? = some y → y ∈ F)) (fun _ t9 _ => bn - (intOf t9).toNat)
            case atStart => exact ⟨0, _, m, cc, F, rfl, rfl, Nat.zero_le _, Nat.le_refl _, hm1, HG1.out⟩
            case round =>
              clear HG1
              obtain ⟨j, p, m', cc, F, rfl, rfl, hjn, hmm, hm2, HG⟩ := hrel
              obtain ⟨s0, s1⟩ := HCL.out wr HG.out.1.b
              by_cases hj : j < bn
              · have hj' : (j : Int) < (bn : Int) := by omega
                have hj2 : decide ((j : Int) < (bn : Int)) = true := decide_eq_true hj'
                obtain ⟨y, hy⟩ : ∃ y, b.ps[j]? = some y := ⟨_, List.getElem?_eq_getElem (by have := HP.out.1; omega)⟩
                obtain ⟨pg, po, rfl, cy⟩ := HP.out.2.1.below HG.out.1.b j y hy
                obtain ⟨yn, rfl, hy1, hy2⟩ := isN_nat (HP.out.2.2.2 y (List.mem_of_getElem? hy))
                have hpsy : g.ps nx yn = true := by
                  have hm := List.mem_of_getElem? hy
                  rw [HP.out.2.2.1] at hm
                  obtain ⟨z, e1, e2, e3⟩ := mem_lsI.1 hm
                  have : yn = z := by omega
                  rw [this]; exact e3
                have HI : Hid (Gm w wr (.slice p m' cc) m' F ∧ m' ≤ 1000) := ⟨HG.out.1, by omega⟩
                cases hbb : inB F (yn : Int)
                · have HX : Hid (Gb g.ps E (F ++ [(yn : Int)]) i ∧ (F ++ [(yn : Int)])[i]? = some (nx : Int) ∧ ∀ (t : Nat) (y : Int), t < j + 1 → b.ps[t]? = some y → y ∈ F ++ [(yn : Int)]) := by
                    have h3 := HG.out.2.2.1
                    refine ⟨HG.out.2.1.add h3 hy1 hy2 hpsy (inB_no.1 hbb), by rw [List.getElem?_append_left (List.getElem?_eq_some_iff.1 h3).1]; exact h3, fun t z ht hz => ?_⟩
                    by_cases e : t = j
                    · subst e; rw [hy] at hz; cases hz; simp
                    · exact List.mem_append_left _ (HG.out.2.2.2 t z (by omega) hz)
                  have hl9 := HX.out.1.len
                  have hln := HG.out.1.n
                  have hm3 : m' + 1 ≤ 100 := by simp at hl9; omega
                  have HO : Hid (IRow w.heap.size (wr.alloc (.cells #[.int .i64 yn] 2)) (.slice p m' cc) F) := HG.out.1.r.below ((Below.refl _ _).alloc (Nat.le_refl _) _)
                  have HV : Hid ((wr.alloc (.cells #[.int .i64 yn] 2)).cell? ⟨wr.heap.size, 0, none⟩ = some (.int .i64 yn)) := by show World.cell? _ _ = _; rw [cell_of new0]; rfl
                  have HB2 : Hid (Below w.heap.size w (wr.alloc (.cells #[.int .i64 yn] 2))) := HG.out.1.b.alloc HG.out.1.b.size _
                  clear hy hpsy hl9 hln
                  go_upto_region 15 with (go_at_call 17; refine (HIn.out F wr p m' cc yn HI.out).mono ?_; rintro e w1 ⟨rfl, rfl⟩; rw [hbb])
                  go_wp2_with (at_builtin; refine append_one (wr := w1.alloc (.cells #[.int .i64 yn] 2)) (B := w.heap.size) rfl _ _ rfl p m' cc F yn rfl HO.out HB2.out.size w1.heap.size 1 rfl HV.out (by omega) ?_; intro g3 c3 w3 R3 hB3)
                  refine ⟨⟨j + 1, _, m' + 1, c3, F ++ [(yn : Int)], rfl, by simp, by omega, by omega, by omega, ⟨by rw [List.length_append, ← HG.out.1.n]; rfl, R3, HB2.out.trans hB3⟩, HX.out⟩, ?_⟩
                  simp [intOf]
                  omega
                · have HX : Hid (∀ (t : Nat) (y : Int), t < j + 1 → b.ps[t]? = some y → y ∈ F) := fun t z ht hz => by
                    by_cases e : t = j
                    · subst e; rw [hy] at hz; cases hz; exact inB_iff.1 hbb
                    · exact HG.out.2.2.2 t z (by omega) hz
                  clear hy hpsy
                  go_wp2_with (go_at_call 17; refine (HIn.out F wr p m' cc yn HI.out).mono ?_; rintro e w1 ⟨rfl, rfl⟩; rw [hbb])
                  refine ⟨⟨j + 1, _, m', cc, F, rfl, by simp, by omega, by omega, by omega, HG.out.1, HG.out.2.1, HG.out.2.2.1, HX.out⟩, ?_⟩
                  simp [intOf]
                  omega
              · have hj' : ¬ (j : Int) < (bn : Int) := by omega
                have hj2 : decide ((j : Int) < (bn : Int)) = false := decide_eq_false hj'
                have HX : Hid (Gb g.ps E F (i + 1)) := HG.out.2.1.next HG.out.2.2.1 fun y hy hp => by
                  have hmm : (y : Int) ∈ b.ps := by rw [HP.out.2.2.1]; exact mem_lsI.2 ⟨y, rfl, hy, hp⟩
                  obtain ⟨t, ht⟩ := List.getElem?_of_mem hmm
                  exact HG.out.2.2.2 t y (by have := (List.getElem?_eq_some_iff.1 ht).1; have := HP.out.1; omega) ht
                go_wp2_with fail
                refine ⟨⟨i + 1, _, m', cc, F, rfl, by simp, by omega, by omega, HG.out.1, HX.out⟩, ?_⟩
                simp [intOf]
                omega
          · have HX : Hid (Gb g.ps E F (i + 1)) := HG.out.2.next hx fun y hy hp => by
              have := (HR.out.z nx hx2.lt fun b hb e => hno b hb (by omega)).2 y hy
              rw [hp] at this
              cases this
            have HG1 : Hid (Gm w wr (.slice (some ⟨ga, go, none⟩) m cc) m F) := HG.out.1
            clear hx hno HG
            go_upto_region 11 with (go_at_call 27; refine HF.out.mono ?_; rintro e w1 ⟨rfl, rfl⟩)
            clear cx HF
            go_wp2_with fail
            go_loopw [5, 9] (fun t5 t9 wx => t5 = .slice (some ⟨ga, go, none⟩) m cc ∧ t9 = .int .i64 0 ∧ wx = w1) (fun _ _ _ => 0)
            case atStart => exact ⟨rfl, rfl, rfl⟩
            case round =>
              obtain ⟨rfl, rfl, rfl⟩ := hrel
              go_wp2_with fail
              refine ⟨⟨i + 1, _, m, cc, F, rfl, by simp, by omega, by omega, HG1.out, HX.out⟩, ?_⟩
              simp [intOf]
              omega
        · have hi' : ¬ (i : Int) < (m : Int) := by omega
          have HX : Hid (∃ F, Gm w wr (.slice p m cc) m F ∧ ∀ x, x ∈ F ↔ ∃ n : Nat, x = n ∧ Rch g.ps (stI E) n) := by
            have h2 := HG.out.2
            rw [show i = F.length by have := HG.out.1.n; omega] at h2
            exact ⟨F, HG.out.1, h2.done⟩
          go_wp2_with fail
          go_ret
          exact ⟨p, m, cc, rfl, hm1, HX.out⟩
end Go.Proofs.Ytodldfgoieikcaa
