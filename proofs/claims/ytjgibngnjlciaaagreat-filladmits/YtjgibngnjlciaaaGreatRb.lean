/-
  The document's Wrong and next.
-/
import Derived.Test.YtjgibngnjlciaaaGreatRa
namespace Go.Proofs.YtjgibngnjlciaaaGreat
open Go.RowKit Go.Maps Go.WideMaps Go.Sort

theorem nod_take {S : List Sl} {k : Nat} {x : Sl} (h : Nod (S.take k)) (hx : S[k]? = some x) (hb : ∀ i y, i < k → S[i]? = some y → y.nm ≠ x.nm) : Nod (S.take (k + 1)) := by
  rw [take_next hx]
  refine nod_add.2 ⟨h, fun a ha => ?_⟩
  obtain ⟨j, hj, rfl⟩ := List.getElem_of_mem ha
  rw [List.length_take] at hj
  rw [List.getElem_take]
  exact hb j _ (by omega) (List.getElem?_eq_getElem _)
theorem not_nod {S : List Sl} {i k : Nat} {a x : Sl} (ha : S[i]? = some a) (hx : S[k]? = some x) (hi : i < k) (e : a.nm = x.nm) : ¬ Nod S := fun h => by
  obtain ⟨l1, e1⟩ := List.getElem?_eq_some_iff.1 ha
  obtain ⟨l2, e2⟩ := List.getElem?_eq_some_iff.1 hx
  have := List.pairwise_iff_getElem.1 h i k l1 l2 hi
  rw [e1, e2] at this
  exact this e
set_option maxHeartbeats 4000000 in
set_option maxRecDepth 100000 in
theorem wrong_any (T : List V) (S : List Sl) (q r : Option Addr) (n c m d : Nat) (w : World) (hT : Hid (TA w q T)) (hS : Hid (SA w r S)) (hn : Hid (T.length = n)) (hm : Hid (S.length = m)) (n1 : n ≤ 1000000) (m1 : m ≤ 1000000) :
    Calls Tryz.prog 32 #[.slice q n c, .slice r m d] w fun e w' => e = .returned (.int .i64 (chk T S : Nat)) ∧ Hid (Below w.heap.size w w') := by
  have HC : Hid (∀ (a b c d : Int) (w : World), Calls Tryz.prog 57 #[.agg #[.int .i64 a, .int .i64 b, .int .i64 c, .int .i64 d]] w fun e w' => e = .returned (.bool (fm a b c d)) ∧ Below w.heap.size w w') := fun a b c d w => rformed_any a b c d w
  go_enter Tryz.func32, Tryz.ntmps32
  go_wp2_with fail
  go_loopw [5] (fun x wr => ∃ k : Nat, x = .int .i64 k ∧ k ≤ n ∧ Hid ((T.take k).all V.ok = true ∧ Below w.heap.size w wr)) (fun x _ => n - (intOf x).toNat)
  case atStart => exact ⟨0, rfl, Nat.zero_le _, rfl, Below.refl _ _⟩
  case round =>
    obtain ⟨k, rfl, hk, HB⟩ := hrel
    by_cases h0 : k < n
    · have hlt' : (k : Int) < (n : Int) := by omega
      have hd : decide ((k : Int) < (n : Int)) = true := decide_eq_true hlt'
      obtain ⟨s, hs⟩ : ∃ s, T[k]? = some s := ⟨T[k]'(by have := hn.out; omega), List.getElem?_eq_getElem _⟩
      obtain ⟨g, o, rfl, c1, c2, c3, c4⟩ := TA.at (hT.out.below HB.out.2) hs
      have HV : Hid (T[k]? = some s) := hs
      have hf : Hid (fm s.a s.b s.c s.d = s.ok) := (rfl : _ = _)
      have H35 := HC.out s.a s.b s.c s.d
      rw [hf.out] at H35
      obtain ⟨a, b, c', d'⟩ := s
      simp only [] at c1 c2 c3 c4 H35
      clear hs HC hf
      by_cases hf : V.ok ⟨a, b, c', d'⟩ = true
      · have HC' : Hid (∀ (w : World), Calls Tryz.prog 57 #[.agg #[.int .i64 a, .int .i64 b, .int .i64 c', .int .i64 d']] w fun e w' => e = .returned (.bool true) ∧ Below w.heap.size w w') := fun w => by have := H35 w; rwa [hf] at this
        have HF : Hid (V.ok ⟨a, b, c', d'⟩ = true) := hf
        clear H35 hf
        go_wp2_with (go_at_call 57; refine (HC'.out _).mono ?_; rintro e w1 ⟨rfl, b1⟩)
        refine ⟨⟨k + 1, by simp, by omega, all_take V.ok HV.out HB.out.1 HF.out, below_from HB.out.2 b1 HB.out.2.size⟩, by simp only [intOf]; omega⟩
      · have HC' : Hid (∀ (w : World), Calls Tryz.prog 57 #[.agg #[.int .i64 a, .int .i64 b, .int .i64 c', .int .i64 d']] w fun e w' => e = .returned (.bool false) ∧ Below w.heap.size w w') := fun w => by have := H35 w; rwa [Bool.eq_false_iff.2 hf] at this
        have HF : Hid (chk T S = 4) := by
          show _ = _
          unfold chk
          rw [show allOk T = false from all_bad V.ok HV.out hf, Bool.false_and, if_pos rfl]
        clear H35 hf
        go_wp2_with (go_at_call 57; refine (HC'.out _).mono ?_; rintro e w1 ⟨rfl, b1⟩)
        go_ret
        exact ⟨by rw [HF.out]; rfl, below_from HB.out.2 b1 HB.out.2.size⟩
    · have hlt' : ¬ (k : Int) < (n : Int) := by omega
      have hd : decide ((k : Int) < (n : Int)) = false := decide_eq_false hlt'
      have HT : Hid (allOk T = true) := by
        have := HB.out.1
        rw [List.take_of_length_le (by rw [hn.out]; omega)] at this
        exact this
      have B0 : Hid (Below w.heap.size w wr) := HB.out.2
      clear HB hT
      go_wp2_with fail
      clear hlt' hd hk h0
      go_loopw [6] (fun x wr => ∃ k : Nat, x = .int .i64 k ∧ k ≤ m ∧ Hid ((S.take k).all (fun s => s.v.ok) = true ∧ Below w.heap.size w wr)) (fun x _ => m - (intOf x).toNat)
      case atStart => exact ⟨0, rfl, Nat.zero_le _, rfl, B0.out⟩
      case round =>
        clear B0
        obtain ⟨k, rfl, hk, HB⟩ := hrel
        by_cases h0 : k < m
        · have hlt' : (k : Int) < (m : Int) := by omega
          have hd : decide ((k : Int) < (m : Int)) = true := decide_eq_true hlt'
          obtain ⟨s, hs⟩ : ∃ s, S[k]? = some s := ⟨S[k]'(by have := hm.out; omega), List.getElem?_eq_getElem _⟩
          obtain ⟨g, o, rfl, c0, c1, c2, c3, c4⟩ := SA.at (hS.out.below HB.out.2) hs
          have HV : Hid (S[k]? = some s) := hs
          have hf : Hid (fm s.v.a s.v.b s.v.c s.v.d = s.v.ok) := (rfl : _ = _)
          have H35 := HC.out s.v.a s.v.b s.v.c s.v.d
          rw [hf.out] at H35
          obtain ⟨nm, ⟨a, b, c', d'⟩⟩ := s
          simp only [] at c0 c1 c2 c3 c4 H35
          have c2 : wr.cell? ⟨g, o + k * 5 + 1 + 1, none⟩ = some (.int .i64 b) := c2
          have c3 : wr.cell? ⟨g, o + k * 5 + 1 + 2, none⟩ = some (.int .i64 c') := c3
          have c4 : wr.cell? ⟨g, o + k * 5 + 1 + 3, none⟩ = some (.int .i64 d') := c4
          clear hs HC hf
          by_cases hf : V.ok ⟨a, b, c', d'⟩ = true
          · have HC' : Hid (∀ (w : World), Calls Tryz.prog 57 #[.agg #[.int .i64 a, .int .i64 b, .int .i64 c', .int .i64 d']] w fun e w' => e = .returned (.bool true) ∧ Below w.heap.size w w') := fun w => by have := H35 w; rwa [hf] at this
            have HF : Hid (V.ok ⟨a, b, c', d'⟩ = true) := hf
            clear H35 hf
            go_wp2_with (go_at_call 57; refine (HC'.out _).mono ?_; rintro e w1 ⟨rfl, b1⟩)
            refine ⟨⟨k + 1, by simp, by omega, all_take (fun s : Sl => s.v.ok) HV.out HB.out.1 HF.out, below_from HB.out.2 b1 HB.out.2.size⟩, by simp only [intOf]; omega⟩
          · have HC' : Hid (∀ (w : World), Calls Tryz.prog 57 #[.agg #[.int .i64 a, .int .i64 b, .int .i64 c', .int .i64 d']] w fun e w' => e = .returned (.bool false) ∧ Below w.heap.size w w') := fun w => by have := H35 w; rwa [Bool.eq_false_iff.2 hf] at this
            have HF : Hid (chk T S = 4) := by
              show _ = _
              unfold chk
              rw [show allS S = false from all_bad (fun s : Sl => s.v.ok) HV.out hf, Bool.and_false, if_pos rfl]
            clear H35 hf
            go_wp2_with (go_at_call 57; refine (HC'.out _).mono ?_; rintro e w1 ⟨rfl, b1⟩)
            go_ret
            exact ⟨by rw [HF.out]; rfl, below_from HB.out.2 b1 HB.out.2.size⟩
        · have hlt' : ¬ (k : Int) < (m : Int) := by omega
          have hd : decide ((k : Int) < (m : Int)) = false := decide_eq_false hlt'
          have hc : Hid (chk T S = if ¬ Nod S then 5 else if T.length = 0 ∨ 6 < T.length then 2 else 0) := by
            have := HB.out.1
            rw [List.take_of_length_le (by rw [hm.out]; omega)] at this
            show _ = _
            unfold chk
            rw [HT.out, show allS S = true from this, if_neg (by decide)]
          have B0 : Hid (Below w.heap.size w wr) := HB.out.2
          clear HB HC HT
          go_wp2_with fail
          clear hlt' hd hk h0
          go_loopw [7] (fun x wr => ∃ k : Nat, x = .int .i64 k ∧ k ≤ m ∧ Hid (Nod (S.take k) ∧ Below w.heap.size w wr)) (fun x _ => m - (intOf x).toNat)
          case atStart => exact ⟨0, rfl, Nat.zero_le _, List.Pairwise.nil, B0.out⟩
          case round =>
            clear B0
            obtain ⟨k, rfl, hk, HB⟩ := hrel
            by_cases h0 : k < m
            · have hlt' : (k : Int) < (m : Int) := by omega
              have hd : decide ((k : Int) < (m : Int)) = true := decide_eq_true hlt'
              obtain ⟨s, hs⟩ : ∃ s, S[k]? = some s := ⟨S[k]'(by have := hm.out; omega), List.getElem?_eq_getElem _⟩
              have H32 := find_any wr r m d S s.nm (hS.out.below HB.out.2) hm m1
              obtain ⟨g, o, rfl, c0, -⟩ := SA.at (hS.out.below HB.out.2) hs
              obtain ⟨i, hi⟩ : ∃ i, plc s.nm S = some i := by
                cases hp : plc s.nm S with
                | none => exact absurd rfl (plc_none hp s (List.mem_of_getElem? hs))
                | some i => exact ⟨i, rfl⟩
              obtain ⟨a, ha, e⟩ := plc_some hi
              have hbf : ∀ j y, j < i → S[j]? = some y → y.nm ≠ s.nm := fun j y hj hy => by
                have hp := hi
                unfold plc at hp
                rw [List.findIdx?_eq_some_iff_getElem] at hp
                obtain ⟨l, e1⟩ := List.getElem?_eq_some_iff.1 hy
                have := hp.2.2 j hj
                rw [e1] at this
                simpa using this
              have hik : i ≤ k := by
                by_cases q : k < i
                · exact absurd rfl (hbf k s q hs)
                · omega
              unfold fndI at H32
              rw [hi] at H32
              have H32' : Hid (Calls Tryz.prog 37 #[.slice (some ⟨g, o, none⟩) m d, .string ⟨⟨s.nm⟩⟩] wr fun e w' => e = .returned (.int .i64 (i : Int)) ∧ Hid (Below wr.heap.size wr w')) := H32
              by_cases hlt : i < k
              · have i1 : (i : Int) < (k : Int) := by omega
                have i2 : decide ((i : Int) < (k : Int)) = true := decide_eq_true i1
                have HF : Hid (chk T S = 5) := by
                  show _ = _
                  rw [hc.out, if_pos (not_nod ha hs hlt e)]
                clear H32 hs ha e hbf hi hik
                go_wp2_with (go_at_call 37; refine H32'.out.mono ?_; rintro e w1 ⟨rfl, b1⟩)
                go_ret
                exact ⟨by rw [HF.out]; rfl, below_from HB.out.2 b1.out HB.out.2.size⟩
              · obtain rfl : i = k := by omega
                have HF : Hid (Nod (S.take (i + 1))) := nod_take HB.out.1 hs hbf
                have i1 : ¬ (i : Int) < (i : Int) := by omega
                clear H32 hs ha e hbf hi hik
                go_wp2_with (go_at_call 37; refine H32'.out.mono ?_; rintro e w1 ⟨rfl, b1⟩)
                exact ⟨⟨i + 1, by simp, by omega, HF.out, below_from HB.out.2 b1.out HB.out.2.size⟩, by simp only [intOf]; omega⟩
            · have hlt' : ¬ (k : Int) < (m : Int) := by omega
              have hd : decide ((k : Int) < (m : Int)) = false := decide_eq_false hlt'
              have hN : Nod S := by
                have := HB.out.1
                rwa [List.take_of_length_le (by rw [hm.out]; omega)] at this
              have hc2 : Hid (chk T S = if T.length = 0 ∨ 6 < T.length then 2 else 0) := by show _ = _; rw [hc.out, if_neg (fun h => h hN)]
              clear hc hN
              by_cases n0 : n = 0
              · have hc3 : Hid (chk T S = 2) := by show _ = _; rw [hc2.out, if_pos (.inl (hn.out.trans n0))]
                have n0' : (n : Int) < 1 := by omega
                have n0'' : decide ((n : Int) < 1) = true := decide_eq_true n0'
                subst n0
                go_wp2_with fail
                go_ret
                exact ⟨by rw [hc3.out]; rfl, HB.out.2⟩
              · have n0' : ¬ (n : Int) < 1 := by omega
                have n0'' : decide ((n : Int) < 1) = false := decide_eq_false n0'
                by_cases n6 : 6 < n
                · have hc3 : Hid (chk T S = 2) := by show _ = _; rw [hc2.out, if_pos (.inr (by rw [hn.out]; exact n6))]
                  have n6' : (6 : Int) < (n : Int) := by omega
                  have n6'' : decide ((6 : Int) < (n : Int)) = true := decide_eq_true n6'
                  go_wp2_with fail
                  go_ret
                  exact ⟨by rw [hc3.out]; rfl, HB.out.2⟩
                · have hc3 : Hid (chk T S = 0) := by
                    show _ = _
                    rw [hc2.out, if_neg (by rw [hn.out]; omega)]
                  have n6' : ¬ (6 : Int) < (n : Int) := by omega
                  have n6'' : decide ((6 : Int) < (n : Int)) = false := decide_eq_false n6'
                  go_wp2_with fail
                  go_ret
                  exact ⟨by rw [hc3.out]; rfl, HB.out.2⟩
/-! ### whose turn it is -/
/-- those that are placed -/
def plB (L : List Nat) (n : Nat) : List Bool := (List.range n).map fun i => decide (i ∈ L)
/-- the best of the first k that aren't placed -/
def Bst (T : List V) (L : List Nat) (k : Nat) (b : Int) : Prop := (b = -1 ∧ ∀ i, i < k → i ∈ L) ∨ ∃ j : Nat, b = j ∧ j < k ∧ j ∉ L ∧ ∀ i, i < k → i ∉ L → i = j ∨ bef T j i
theorem plB_at {L : List Nat} {n i : Nat} (hi : i < n) : (plB L n)[i]? = some (decide (i ∈ L)) := by
  unfold plB
  rw [List.getElem?_map, List.getElem?_range hi]
  rfl
set_option maxHeartbeats 4000000 in
set_option maxRecDepth 100000 in
theorem next_any (T : List V) (L : List Nat) (q : Option Addr) (n c g : Nat) (w : World) (hT : Hid (TA w q T)) (hP : Hid (LB 4 Value.bool w g (plB L n))) (hn : Hid (T.length = n)) (n1 : n ≤ 1000000) :
    Calls Tryz.prog 34 #[.slice q n c, .slice (some ⟨g, 0, none⟩) n n] w fun e w' => ∃ b, e = .returned (.int .i64 b) ∧ Hid (Bst T L n b ∧ Below w.heap.size w w') := by
  go_enter Tryz.func34, Tryz.ntmps34
  go_wp2_with fail
  go_loopw [5, 6] (fun y x wr => ∃ (k : Nat) (b : Int), y = .int .i64 b ∧ x = .int .i64 k ∧ k ≤ n ∧ Hid (Bst T L k b ∧ Below w.heap.size w wr)) (fun _ x _ => n - (intOf x).toNat)
  case atStart => exact ⟨0, -1, rfl, rfl, Nat.zero_le _, .inl ⟨rfl, fun i hi => absurd hi (by omega)⟩, Below.refl _ _⟩
  case round =>
    obtain ⟨k, b, rfl, rfl, hk, HB⟩ := hrel
    by_cases h0 : k < n
    · have hlt' : (k : Int) < (n : Int) := by omega
      have hd : decide ((k : Int) < (n : Int)) = true := decide_eq_true hlt'
      obtain ⟨ga, oa, rfl, x0, x1, x2, x3⟩ := TA.at (hT.out.below HB.out.2) (tg_lt (show k < T.length by have := hn.out; omega))
      have cp : wr.cell? ⟨g, k, none⟩ = some (.bool (decide (k ∈ L))) := (hP.out.below HB.out.2).cell (plB_at h0)
      by_cases hkL : k ∈ L
      · rw [decide_eq_true hkL] at cp
        have HN : Hid (Bst T L (k + 1) b) := by
          rcases HB.out.1 with ⟨e, h⟩ | ⟨j, e, h1, h2, h3⟩
          · exact .inl ⟨e, fun i hi => by
              by_cases q : i = k
              · rw [q]; exact hkL
              · exact h i (by omega)⟩
          · exact .inr ⟨j, e, by omega, h2, fun i hi hn => by
              by_cases q : i = k
              · exact absurd (q ▸ hkL) hn
              · exact h3 i (by omega) hn⟩
        clear x0 x1 x2 x3
        go_upto_region 5 with fail
        go_quiet (fail)
        go_wp2_with fail
        exact ⟨⟨k + 1, b, by simp, by simp, by omega, HN.out, below_drewN HB.out.2 _⟩, by simp only [intOf]; omega⟩
      · rw [decide_eq_false hkL] at cp
        rcases HB.out.1 with ⟨rfl, h⟩ | ⟨j, rfl, h1, h2, h3⟩
        · have HN : Hid (Bst T L (k + 1) (k : Int)) := .inr ⟨k, rfl, by omega, hkL, fun i hi hn => by
            by_cases q : i = k
            · exact .inl q
            · exact absurd (h i (by omega)) hn⟩
          clear x0 x1 x2 x3 h
          go_upto_region 5 with fail
          go_quiet (fail)
          go_wp2_with fail
          exact ⟨⟨k + 1, k, by simp, by simp, by omega, HN.out, below_drewN HB.out.2 _⟩, by simp only [intOf]; omega⟩
        · obtain ⟨ga', oa', e', y0, y1, y2, y3⟩ := TA.at (hT.out.below HB.out.2) (tg_lt (show j < T.length by have := hn.out; omega))
          cases e'
          have H43 : Hid (∀ w, Calls Tryz.prog 58 #[.agg #[.int .i64 (tg T k).a, .int .i64 (tg T k).b, .int .i64 (tg T k).c, .int .i64 (tg T k).d], .agg #[.int .i64 (tg T j).a, .int .i64 (tg T j).b, .int .i64 (tg T j).c, .int .i64 (tg T j).d]] w fun r w' => r = .returned (.int .i64 (cmV (tg T k) (tg T j))) ∧ Below w.heap.size w w') := fun w => rcmp_any _ _ _ _ _ _ _ _ w
          have hcp : Hid (0 < cmV (tg T k) (tg T j) ↔ V.gt (tg T k) (tg T j)) := cm_pos _ _
          have j0 : ¬ (j : Int) < 0 := by omega
          have j0' : decide ((j : Int) < 0) = false := decide_eq_false j0
          have j1 : (j : Int) < (n : Int) := by omega
          have HJ : Hid (j < k ∧ j ∉ L ∧ k ∉ L ∧ ∀ i, i < k → i ∉ L → i = j ∨ bef T j i) := ⟨h1, h2, hkL, h3⟩
          clear h2 h3 hkL
          have HN : Hid (∀ b : Bool, (b = true ↔ V.gt (tg T k) (tg T j)) → Bst T L (k + 1) (if b then (k : Int) else (j : Int))) := fun b hb => by
            obtain ⟨a1, a2, a3, a4⟩ := HJ.out
            cases b with
            | true =>
              have hg := hb.1 rfl
              refine .inr ⟨k, rfl, by omega, a3, fun i hi hn => ?_⟩
              by_cases q : i = k
              · exact .inl q
              · rcases a4 i (by omega) hn with rfl | q
                · exact .inr (.inl hg)
                · exact .inr (bef_trans (.inl hg) q)
            | false =>
              have hg : ¬ V.gt (tg T k) (tg T j) := fun h => by have := hb.2 h; cases this
              refine .inr ⟨j, rfl, by omega, a2, fun i hi hn => ?_⟩
              by_cases q : i = k
              · subst q
                refine .inr ?_
                rcases gt_total (tg T j) (tg T i) with r | r | r
                · exact .inl r
                · exact .inr ⟨r, a1⟩
                · exact absurd r hg
              · exact a4 i (by omega) hn
          clear HJ
          generalize hr : cmV (tg T k) (tg T j) = r at *
          clear hr
          have HM : Hid (∀ b : Bool, (b = true ↔ 0 < r) → Bst T L (k + 1) (if b then (k : Int) else (j : Int))) := fun b hb => HN.out b (hb.trans hcp.out)
          clear hcp HN
          generalize tg T k = u at *
          generalize tg T j = v at *
          obtain ⟨ua, ub, uc, ud⟩ := u
          obtain ⟨va, vb, vc, vd⟩ := v
          simp only [] at x0 x1 x2 x3 y0 y1 y2 y3 H43
          go_upto_region 5 with fail
          have G43 := grown (W := wr) H43
          have m0 := cell_regrown x0
          have m1 := cell_regrown x1
          have m2 := cell_regrown x2
          have m3 := cell_regrown x3
          have n0 := cell_regrown y0
          have n1 := cell_regrown y1
          have n2 := cell_regrown y2
          have n3 := cell_regrown y3
          have k1 := cell_regrown cp
          by_cases hr : 0 < r
          · have r2 : decide (0 < r) = true := decide_eq_true hr
            have HF := HM.out true ⟨fun _ => hr, fun _ => rfl⟩
            refine wp_region_quiet_below (by kernel_rfl) (by kernel_rfl) ?_
            repeat (first | go_big_quiet_step ((go_at_call 58; exact G43.out _ _)) | quiet_step ((go_at_call 58; exact G43.out _ _)))
            refine wpQuiet_nil ?_
            intro _ hw'
            obtain ⟨⟨dq, osq⟩, hw''⟩ := hw'
            subst hw''
            clear m0 m1 m2 m3 n0 n1 n2 n3 k1 x0 x1 x2 x3 y0 y1 y2 y3 cp G43 H43
            go_wp2_with fail
            exact ⟨⟨k + 1, k, by simp, by simp, by omega, HF, below_from HB.out.2 (below_regrown wr dq osq) HB.out.2.size⟩, by simp only [intOf]; omega⟩
          · have r2 : decide (0 < r) = false := decide_eq_false hr
            have HF := HM.out false ⟨fun h => (by cases h), fun h => absurd h hr⟩
            refine wp_region_quiet_below (by kernel_rfl) (by kernel_rfl) ?_
            repeat (first | go_big_quiet_step ((go_at_call 58; exact G43.out _ _)) | quiet_step ((go_at_call 58; exact G43.out _ _)))
            refine wpQuiet_nil ?_
            intro _ hw'
            obtain ⟨⟨dq, osq⟩, hw''⟩ := hw'
            subst hw''
            clear m0 m1 m2 m3 n0 n1 n2 n3 k1 x0 x1 x2 x3 y0 y1 y2 y3 cp G43 H43
            go_wp2_with fail
            exact ⟨⟨k + 1, j, by simp, by simp, by omega, HF, below_from HB.out.2 (below_regrown wr dq osq) HB.out.2.size⟩, by simp only [intOf]; omega⟩
    · have hlt' : ¬ (k : Int) < (n : Int) := by omega
      have hd : decide ((k : Int) < (n : Int)) = false := decide_eq_false hlt'
      obtain rfl : k = n := by omega
      go_wp2_with fail
      go_ret
      exact ⟨b, rfl, HB.out.1, HB.out.2⟩
end Go.Proofs.YtjgibngnjlciaaaGreat
