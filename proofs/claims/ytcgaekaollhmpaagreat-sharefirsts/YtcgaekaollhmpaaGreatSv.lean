/-
  There is an order, or a refusal, for every list of usages. The document's First; ShareFirsts' law. ShareFirsts' law.
-/
import Derived.Test.YtcgaekaollhmpaaGreatTd
import Derived.Test.YtcgaekaollhmpaaGreatUg
import Derived.Deep.RegionWith
import Derived.Test.YtcgaekaollhmpaaGreatSi
namespace Go.Proofs.YtcgaekaollhmpaaGreat
open Go.RowKit Go.Maps

theorem srt_ins {all : Vs.V} {u : U} (hu : er all u = 0) : ∀ {St : List U}, SrT all St → (∀ x ∈ St, er all x = 0) → (∀ x ∈ St, u.nm ≠ x.nm) → ∃ T : List U, T.Perm (u :: St) ∧ SrT all T
  | [], _, _, _ => ⟨[u], List.Perm.refl _, List.pairwise_singleton _ _⟩
  | z :: r, hs, he, hn => by
    have hz := he z (List.mem_cons_self ..)
    obtain ⟨h1, h2⟩ := List.pairwise_cons.1 hs
    rcases tb_total (a := ten all u) (b := ten all z) (hn z (List.mem_cons_self ..)) with h | h
    · refine ⟨u :: z :: r, List.Perm.refl _, List.pairwise_cons.2 ⟨fun b hb => ?_, hs⟩⟩
      rcases List.mem_cons.1 hb with rfl | hb
      · exact h
      · exact tb_trans (ten_ok hu).z (ten_ok hz).z (ten_ok (he b (List.mem_cons_of_mem _ hb))).z h (h1 b hb)
    · obtain ⟨T, p, hT⟩ := srt_ins hu h2 (fun x hx => he x (List.mem_cons_of_mem _ hx)) (fun x hx => hn x (List.mem_cons_of_mem _ hx))
      refine ⟨z :: T, (p.cons z).trans (List.Perm.swap ..), List.pairwise_cons.2 ⟨fun b hb => ?_, hT⟩⟩
      rcases List.mem_cons.1 (p.subset hb) with rfl | hb
      · exact h
      · exact h1 b hb
theorem srt_ex {all : Vs.V} : ∀ {L : List U}, (∀ x ∈ L, er all x = 0) → Nd L → ∃ T : List U, T.Perm L ∧ SrT all T
  | [], _, _ => ⟨[], List.Perm.refl _, List.Pairwise.nil⟩
  | u :: r, he, hn => by
    obtain ⟨h1, h2⟩ := List.pairwise_cons.1 hn
    obtain ⟨T, p, hT⟩ := srt_ex (fun x hx => he x (List.mem_cons_of_mem _ hx)) h2
    obtain ⟨T', p', hT'⟩ := srt_ins (he u (List.mem_cons_self ..)) hT (fun x hx => he x (List.mem_cons_of_mem _ (p.subset hx))) (fun x hx => h1 x (p.subset hx))
    exact ⟨T', p'.trans (p.cons u), hT'⟩
theorem ord_ex (all : Vs.V) (L : List U) : ∃ err R, OrdR all L err R := by
  by_cases h : fstE all L = 0
  · by_cases hd : Nd L
    · obtain ⟨T, p, hT⟩ := srt_ex (fstE_zero.1 h) hd
      exact ⟨0, T.map (ten all), .inr (.inr ⟨h, hd, rfl, p.map _, List.pairwise_map.2 hT⟩)⟩
    · exact ⟨5, [], .inr (.inl ⟨h, hd, rfl, rfl⟩)⟩
  · exact ⟨fstE all L, [], .inl ⟨rfl, h, rfl⟩⟩
end Go.Proofs.YtcgaekaollhmpaaGreat

namespace Go.Proofs.YtcgaekaollhmpaaGreat
open Go.RowKit Go.Maps Go.Sort

theorem FR.uniq {err : Nat} {R : List Tn} {N : List (List UInt8)} {e1 e2 : Nat} {n1 n2 : List UInt8} (h : FR err R N e1 n1) (k : FR err R N e2 n2) : e1 = e2 ∧ n1 = n2 := by
  rcases h with ⟨a1, a2, a3⟩ | ⟨a1, ⟨a2, a3, a4⟩ | ⟨t, r, a2, a3, a4⟩⟩ <;> rcases k with ⟨b1, b2, b3⟩ | ⟨b1, ⟨b2, b3, b4⟩ | ⟨t', r', b2, b3, b4⟩⟩
  · exact ⟨a2.trans b2.symm, a3.trans b3.symm⟩
  · exact absurd b1 a1
  · exact absurd b1 a1
  · exact absurd a1 b1
  · exact ⟨a3.trans b3.symm, a4.trans b4.symm⟩
  · rw [a2] at b2; cases b2
  · exact absurd a1 b1
  · rw [a2] at b2; cases b2
  · rw [a2] at b2
    cases b2
    exact ⟨a3.trans b3.symm, a4.trans b4.symm⟩
theorem keep_mem {N : List (List UInt8)} {t : Tn} : keep N t = decide (t.nm ∈ N) := by unfold keep nask; rw [Bool.not_not]
theorem filter_at {R : List Tn} {N : List (List UInt8)} {i : Nat} {t : Tn} (hi : R[i]? = some t) (hb : ∀ (j : Nat) x, j < i → R[j]? = some x → x.nm ∉ N) (hm : t.nm ∈ N) : ∃ r, R.filter (keep N) = t :: r := by
  obtain ⟨hl, e⟩ := List.getElem?_eq_some_iff.1 hi
  have hs : R = R.take i ++ t :: R.drop (i + 1) := by rw [← e, ← List.drop_eq_getElem_cons hl, List.take_append_drop]
  refine ⟨(R.drop (i + 1)).filter (keep N), ?_⟩
  conv => lhs; rw [hs]
  rw [List.filter_append, List.filter_cons_of_pos (by rw [keep_mem]; exact decide_eq_true hm)]
  rw [List.filter_eq_nil_iff.2 fun x hx => ?_]
  · rfl
  · obtain ⟨j, hj, rfl⟩ := List.getElem_of_mem hx
    rw [List.length_take] at hj
    rw [keep_mem, List.getElem_take]
    simpa using hb j _ (by omega) (List.getElem?_eq_getElem _)
theorem filter_no {R : List Tn} {N : List (List UInt8)} (hb : ∀ (j : Nat) x, R[j]? = some x → x.nm ∉ N) : R.filter (keep N) = [] := List.filter_eq_nil_iff.2 fun x hx => by
  obtain ⟨j, hj⟩ := List.mem_iff_getElem?.1 hx
  rw [keep_mem]
  simpa using hb j x hj
set_option maxHeartbeats 4000000 in
set_option maxRecDepth 100000 in
theorem rfirst_any (all : Vs.V) (q : Option Addr) (n c : Nat) (L : List U) (qn : Option Addr) (ln cn : Nat) (N : List (List UInt8)) (err : Nat) (R : List Tn) (w : World) (hn : n = L.length) (hr : UArg w q L) (hm : n ≤ 1000) (hN : N.length = ln) (l1 : ln ≤ 1000000) (hq : NmA w.heap.size w qn N) (hO : OrdR all L err R) :
    Calls Tryz.prog 6 #[.agg #[.int .i64 all.a, .int .i64 all.b, .int .i64 all.c, .int .i64 all.d], .slice qn ln cn, .slice q n c] w (FirP w err R N) := by
  have B0 : Hid (Below w.heap.size w (w.alloc (.cells #[.int .i64 all.a, .int .i64 all.b, .int .i64 all.c, .int .i64 all.d] 23))) := (Below.refl _ w).alloc (Nat.le_refl _) _
  obtain ⟨a0, a1, a2, a3⟩ := c4b (new0 (w := w) (o := .cells #[.int .i64 all.a, .int .i64 all.b, .int .i64 all.c, .int .i64 all.d] 23))
  have H14 := rorder_any all q n c L _ hn (hr.below B0.out) hm
  have HL : Hid (N.length = ln ∧ NmA w.heap.size w qn N ∧ OrdR all L err R) := ⟨hN, hq, hO⟩
  obtain ⟨l0, l1', l2, l3⟩ := all
  simp only [] at H14 a0 a1 a2 a3 B0
  have HW : Hid (Calls Tryz.prog 14 #[.agg #[.int .i64 l0, .int .i64 l1', .int .i64 l2, .int .i64 l3], .slice q n c] (w.alloc (.cells #[.int .i64 l0, .int .i64 l1', .int .i64 l2, .int .i64 l3] 23)) (OrdP (w.alloc (.cells #[.int .i64 l0, .int .i64 l1', .int .i64 l2, .int .i64 l3] 23)) ⟨l0, l1', l2, l3⟩ L)) := H14
  clear hr hn hN hq hO H14
  go_enter Tryz.func6, Tryz.ntmps6
  go_upto_region 1 with fail
  obtain ⟨bw, hbw⟩ : ∃ bw, bw = w.heap.size := ⟨_, rfl⟩
  rw [← hbw] at a0 a1 a2 a3 ⊢
  clear hbw
  generalize w.alloc (.cells #[.int .i64 l0, .int .i64 l1', .int .i64 l2, .int .i64 l3] 23) = W1 at *
  go_upto_region 2 with (go_at_call 14; refine HW.out.mono ?_; rintro e W2 ⟨p, m, c1, er1, R1, rfl, hm1, hW⟩)
  obtain ⟨e12, rfl⟩ := hW.out.1.uniq HL.out.2.2
  subst e12
  have H2 : Hid (Below w.heap.size w W2 ∧ SR W1.heap.size W2 (.slice p m c1) (R1.map Tn.nm) ∧ m = R1.length ∧ NmA w.heap.size W2 qn N) := by
    have b2 : Below w.heap.size w W2 := B0.out.trans (hW.out.2.2.mono B0.out.size)
    refine ⟨b2, hW.out.2.1, ?_, HL.out.2.1.below b2⟩
    have := hW.out.2.1.len
    rwa [List.length_map] at this
  clear HW a0 a1 a2 a3 hW
  by_cases he : er1 = 0
  · subst he
    rw [show (((0 : Nat) : Int)) = 0 from rfl]
    go_wp2_with fail
    go_loopw [10] (fun x wr => ∃ i : Nat, x = .int .i64 i ∧ i ≤ m ∧ Hid ((∀ (j : Nat) x, j < i → R1[j]? = some x → x.nm ∉ N) ∧ Below W2.heap.size W2 wr)) (fun x _ => m - (intOf x).toNat)
    case atStart => exact ⟨0, rfl, Nat.zero_le _, (fun j x hj => absurd hj (by omega)), Below.refl _ _⟩
    case round =>
      obtain ⟨i, rfl, hi, HI⟩ := hrel
      by_cases him : i < m
      · have i1 : (i : Int) < (m : Int) := by omega
        have i2 : decide ((i : Int) < (m : Int)) = true := decide_eq_true i1
        obtain ⟨t, ht⟩ : ∃ t, R1[i]? = some t := ⟨_, List.getElem?_eq_getElem (by have := H2.out.2.2.1; omega)⟩
        obtain ⟨gO, rfl, -⟩ := SR.get H2.out.2.1 (show (R1.map Tn.nm)[i]? = some t.nm by rw [List.getElem?_map, ht]; rfl)
        have HT : Hid (R1[i]? = some t) := ht
        clear ht
        go_wp2_with fail
        go_loopw [11] (fun x wr => ∃ j : Nat, x = .int .i64 j ∧ j ≤ ln ∧ Hid ((∀ (a : Nat) s, a < j → N[a]? = some s → s ≠ t.nm) ∧ Below W2.heap.size W2 wr)) (fun x _ => ln - (intOf x).toNat)
        case atStart => exact ⟨0, rfl, Nat.zero_le _, (fun j x hj => absurd hj (by omega)), HI.out.2⟩
        case round =>
          obtain ⟨j, rfl, hj, HJ⟩ := hrel
          by_cases hjl : j < ln
          · have j1 : (j : Int) < (ln : Int) := by omega
            have j2 : decide ((j : Int) < (ln : Int)) = true := decide_eq_true j1
            obtain ⟨s, hs⟩ : ∃ s, N[j]? = some s := ⟨_, List.getElem?_eq_getElem (by have := HL.out.1; omega)⟩
            obtain ⟨gn, on, rfl, hgl, cn1⟩ := H2.out.2.2.2 j s hs
            have cn2 := cell_kept HJ.out.2 cn1
            obtain ⟨g', e', cO⟩ := SR.get (H2.out.2.1.below HJ.out.2) (show (R1.map Tn.nm)[i]? = some t.nm by rw [List.getElem?_map, HT.out]; rfl)
            cases e'
            have HS : Hid (N[j]? = some s) := hs
            clear hs cn1 hgl
            have HD : Hid (∀ a, Below W2.heap.size W2 (wr.drewN a)) := fun a => below_drewN HJ.out.2 a
            generalize htn : t.nm = tn at *
            have HTN : Hid (t.nm = tn) := htn
            clear htn
            by_cases e : tn = s
            · subst e
              have HX : Hid (∃ r, R1.filter (keep N) = t :: r) := filter_at HT.out HI.out.1 (by rw [HTN.out]; exact List.mem_of_getElem? HS.out)
              have KO : Hid (∀ a, (wr.drewN a).cell? ⟨gO, i, none⟩ = some (.string ⟨⟨tn⟩⟩)) := fun a => cO
              go_upto_region 10 with fail
              go_quiet (fail)
              have cO2 := KO.out nq
              clear cO cn2
              have B7 := HD.out nq
              generalize wr.drewN nq = W7 at *
              go_wp2_with fail
              go_ret2
              obtain ⟨r, hr⟩ := HX.out
              exact ⟨tn, 0, rfl, .inr ⟨rfl, .inr ⟨t, r, hr, rfl, HTN.out.symm⟩⟩, H2.out.1.trans (B7.mono H2.out.1.size)⟩
            · have e1 : (tn == s) = false := by simpa using e
              have HN : Hid (∀ (a : Nat) s', a < j + 1 → N[a]? = some s' → s' ≠ tn) := fun a s' ha hs' => by
                by_cases q : a < j
                · exact HJ.out.1 a s' q hs'
                · obtain rfl : a = j := by omega
                  rw [HS.out] at hs'
                  cases hs'
                  exact fun e' => e e'.symm
              go_upto_region 10 with fail
              go_quiet (fail)
              clear cO cn2
              go_wp2_with fail
              exact ⟨⟨j + 1, by simp, by omega, HN.out, HD.out _⟩, by simp only [intOf]; omega⟩
          · have j1 : ¬ (j : Int) < (ln : Int) := by omega
            have j2 : decide ((j : Int) < (ln : Int)) = false := decide_eq_false j1
            have HN : Hid (∀ (a : Nat) x, a < i + 1 → R1[a]? = some x → x.nm ∉ N) := fun a x ha hx => by
              by_cases q : a < i
              · exact HI.out.1 a x q hx
              · obtain rfl : a = i := by omega
                rw [HT.out] at hx
                cases hx
                intro hmem
                obtain ⟨b, hb⟩ := List.mem_iff_getElem?.1 hmem
                exact HJ.out.1 b _ (by have := (List.getElem?_eq_some_iff.1 hb).1; have := HL.out.1; omega) hb rfl
            go_wp2_with fail
            exact ⟨⟨i + 1, by simp, by omega, HN.out, HJ.out.2⟩, by simp only [intOf]; omega⟩
      · have i1 : ¬ (i : Int) < (m : Int) := by omega
        have i2 : decide ((i : Int) < (m : Int)) = false := decide_eq_false i1
        have HZ : Hid (R1.filter (keep N) = []) := filter_no fun j x hx => HI.out.1 j x (by have := (List.getElem?_eq_some_iff.1 hx).1; have := H2.out.2.2.1; omega) hx
        go_wp2_with fail
        go_ret2
        exact ⟨[], 3, rfl, .inr ⟨rfl, .inl ⟨HZ.out, rfl, rfl⟩⟩, H2.out.1.trans (HI.out.2.mono H2.out.1.size)⟩
  · have e1 : ¬ ((er1 : Nat) : Int) = 0 := by omega
    have e2 : (((er1 : Nat) : Int) == 0) = false := by rw [beq_eq_false_iff_ne]; exact e1
    go_wp2_with fail
    go_ret2
    exact ⟨[], er1, rfl, .inl ⟨he, rfl, rfl⟩, H2.out.1⟩
end Go.Proofs.YtcgaekaollhmpaaGreat

namespace Go.Proofs.YtcgaekaollhmpaaGreat
open Go.RowKit Go.Maps

theorem nma_le {a b : Nat} {W : World} {q : Option Addr} {N : List (List UInt8)} (h : NmA a W q N) (hab : a ≤ b) : NmA b W q N := fun j s hs => by
  obtain ⟨g, o, e, hl, hc⟩ := h j s hs
  exact ⟨g, o, e, by omega, hc⟩
set_option maxHeartbeats 8000000 in
set_option maxRecDepth 100000 in
theorem firsts_law (all : Vs.V) (qn : Option Addr) (ln cn : Nat) (N : List (List UInt8)) (q : Option Addr) (n c : Nat) (L : List U) (w : World) (hN : N.length = ln) (hq : NmA w.heap.size w qn N) (hn : n = L.length) (hr : UArg w q L) (hm : n ≤ 9223372036854775807) (hl : ln ≤ 9223372036854775807) :
    Calls Tryz.prog 3 #[.agg #[.int .i64 all.a, .int .i64 all.b, .int .i64 all.c, .int .i64 all.d], .slice qn ln cn, .slice q n c] w fun e w' => e = .returned (.bool true) ∧ Below w.heap.size w w' := by
  have HA : Hid (∀ W, Calls Tryz.prog 4 #[] W fun e w' => e = .returned (.bool true) ∧ Hid (Below W.heap.size W w')) := awake_any
  have HR : Hid (UArg w q L ∧ n = L.length ∧ N.length = ln ∧ NmA w.heap.size w qn N) := ⟨hr, hn, hN, hq⟩
  obtain ⟨err, R, hO⟩ := ord_ex all L
  have HO : Hid (OrdR all L err R) := hO
  obtain ⟨l0, l1, l2, l3⟩ := all
  simp only []
  clear hr hn hN hq hO
  have B0 : Hid (Below w.heap.size w (w.alloc (.cells #[.int .i64 l0, .int .i64 l1, .int .i64 l2, .int .i64 l3] 23))) := (Below.refl _ w).alloc (Nat.le_refl _) _
  have N0 : Hid ((w.alloc (.cells #[.int .i64 l0, .int .i64 l1, .int .i64 l2, .int .i64 l3] 23)).heap[w.heap.size]? = some (.cells #[.int .i64 l0, .int .i64 l1, .int .i64 l2, .int .i64 l3] 23 (0, 0))) := new0
  by_cases h20 : 100 < n
  · clear HR HO N0
    go_enter Tryz.func3, Tryz.ntmps3
    go_upto_region 1 with fail
    generalize w.alloc (.cells #[.int .i64 l0, .int .i64 l1, .int .i64 l2, .int .i64 l3] 23) = W1 at *
    have g1 : (100 : Int) < (n : Int) := by omega
    have g3 : decide ((100 : Int) < (n : Int)) = true := decide_eq_true g1
    go_wp2_with (first
      | (go_at_call 4; have _ := b1; refine (HA.out _).mono ?_; rintro e w3 ⟨rfl, b3⟩)
      | (go_at_call 4; refine (HA.out _).mono ?_; rintro e w1 ⟨rfl, b1⟩))
    go_ret
    exact ⟨rfl, (B0.out.trans (b1.out.mono B0.out.size)).trans (b3.out.mono (Nat.le_trans B0.out.size b1.out.size))⟩
  have g20 : ¬ (100 : Int) < (n : Int) := by omega
  have g20' : decide ((100 : Int) < (n : Int)) = false := decide_eq_false g20
  by_cases h21 : 100 < ln
  · clear HR HO N0
    go_enter Tryz.func3, Tryz.ntmps3
    go_upto_region 1 with fail
    generalize w.alloc (.cells #[.int .i64 l0, .int .i64 l1, .int .i64 l2, .int .i64 l3] 23) = W1 at *
    have g1 : (100 : Int) < (ln : Int) := by omega
    have g3 : decide ((100 : Int) < (ln : Int)) = true := decide_eq_true g1
    go_wp2_with (first
      | (go_at_call 4; have _ := b1; refine (HA.out _).mono ?_; rintro e w3 ⟨rfl, b3⟩)
      | (go_at_call 4; refine (HA.out _).mono ?_; rintro e w1 ⟨rfl, b1⟩))
    go_ret
    exact ⟨rfl, (B0.out.trans (b1.out.mono B0.out.size)).trans (b3.out.mono (Nat.le_trans B0.out.size b1.out.size))⟩
  have g21 : ¬ (100 : Int) < (ln : Int) := by omega
  have g21' : decide ((100 : Int) < (ln : Int)) = false := decide_eq_false g21
  have h60 : n ≤ 100 := by omega
  have h61 : ln ≤ 100 := by omega
  clear hm hl h20 h21
  go_enter Tryz.func3, Tryz.ntmps3
  go_upto_region 1 with fail
  obtain ⟨bw, hbw⟩ : ∃ bw, bw = w.heap.size := ⟨_, rfl⟩
  rw [← hbw] at N0 ⊢
  clear hbw
  generalize w.alloc (.cells #[.int .i64 l0, .int .i64 l1, .int .i64 l2, .int .i64 l3] 23) = W1 at *
  go_upto_region 3 with (go_at_call 4; refine (HA.out _).mono ?_; rintro e w1 ⟨rfl, b1⟩)
  have HB1 : Hid (Below w.heap.size w w1 ∧ w1.heap[bw]? = some (.cells #[.int .i64 l0, .int .i64 l1, .int .i64 l2, .int .i64 l3] 23 (0, 0))) := ⟨B0.out.trans (b1.out.mono B0.out.size), at_below b1.out (Nat.le_refl _) N0.out⟩
  clear b1 B0 N0 HA g20 g20' g21 g21'
  have H5 : Hid (Calls Tryz.prog 5 #[.agg #[.int .i64 l0, .int .i64 l1, .int .i64 l2, .int .i64 l3], .slice qn ln cn, .slice q n c] w1 (FirP w1 err R N)) := first_any ⟨l0, l1, l2, l3⟩ q n c L qn ln cn N err R w1 HR.out.2.1 (HR.out.1.below HB1.out.1) (by omega) HR.out.2.2.1 (by omega) (nma_le (HR.out.2.2.2.below HB1.out.1) HB1.out.1.size) HO.out
  obtain ⟨d0, d1, d2, d3⟩ := c4b HB1.out.2
  go_upto_region 4 with (go_at_call 5; refine H5.out.mono ?_; rintro e w2 ⟨nm, er1, rfl, h2⟩)
  clear H5 d0 d1 d2 d3
  have HB2 : Hid (Below w.heap.size w w2 ∧ w2.heap[bw]? = some (.cells #[.int .i64 l0, .int .i64 l1, .int .i64 l2, .int .i64 l3] 23 (0, 0)) ∧ FR err R N er1 nm) := ⟨HB1.out.1.trans (h2.out.2.mono HB1.out.1.size), at_below h2.out.2 (Nat.le_refl _) HB1.out.2, h2.out.1⟩
  clear h2 HB1
  have HBX : Hid (∀ W, Below w2.heap.size w2 W → W.cell? ⟨bw, 0, none⟩ = some (.int .i64 l0) ∧ W.cell? ⟨bw, 1, none⟩ = some (.int .i64 l1) ∧ W.cell? ⟨bw, 2, none⟩ = some (.int .i64 l2) ∧ W.cell? ⟨bw, 3, none⟩ = some (.int .i64 l3)) := fun W b => c4b (at_below b (Nat.le_refl _) HB2.out.2.1)
  have H7 : Hid (∀ W, Below w2.heap.size w2 W → Calls Tryz.prog 7 #[.slice q n c] W fun e w' => ∃ p c', e = .returned (.slice p n c') ∧ (w'.cell? ⟨bw, 0, none⟩ = some (.int .i64 l0) ∧ w'.cell? ⟨bw, 1, none⟩ = some (.int .i64 l1) ∧ w'.cell? ⟨bw, 2, none⟩ = some (.int .i64 l2) ∧ w'.cell? ⟨bw, 3, none⟩ = some (.int .i64 l3)) ∧ Hid (Below w2.heap.size w2 w' ∧ UArg w' p L)) := fun W b => by
    refine (plain_raw W q n c L HR.out.2.1.symm (by omega) ((HR.out.1.below HB2.out.1).below b)).mono ?_
    rintro e w' ⟨p, c', rfl, h⟩
    have b' : Below w2.heap.size w2 w' := b.trans (h.out.2.mono b.size)
    exact ⟨p, c', rfl, HBX.out w' b', b', uarg_ru h.out.1 HR.out.1.s⟩
  have H6 : Hid (∀ W, Below w2.heap.size w2 W → ∀ (p : Option Addr) (c' : Nat), UArg W p L → Calls Tryz.prog 6 #[.agg #[.int .i64 l0, .int .i64 l1, .int .i64 l2, .int .i64 l3], .slice qn ln cn, .slice p n c'] W fun e w' => e = .returned (.tuple #[.string ⟨⟨nm⟩⟩, .int .i64 (er1 : Nat)]) ∧ Hid (Below w2.heap.size w2 w')) := fun W b p c' hU => by
    have b0 := HB2.out.1.trans (b.mono HB2.out.1.size)
    refine (rfirst_any ⟨l0, l1, l2, l3⟩ p n c' L qn ln cn N err R W HR.out.2.1 hU (by omega) HR.out.2.2.1 (by omega) (nma_le (HR.out.2.2.2.below b0) b0.size) HO.out).mono ?_
    rintro e w' ⟨nm', er', rfl, h⟩
    obtain ⟨rfl, rfl⟩ := h.out.1.uniq HB2.out.2.2
    exact ⟨rfl, b.trans (h.out.2.mono b.size)⟩
  obtain ⟨d0, d1, d2, d3⟩ := HBX.out w2 (Below.refl _ _)
  have HS : Hid (Below w2.heap.size w2 w2) := Below.refl _ _
  go_region_with (first
    | (go_at_call 7; refine (H7.out _ (by first | exact HS.out | exact HS.out.drew | exact below_drewN HS.out _)).mono ?_; rintro e w3 ⟨p3, c3, rfl, ⟨k0, k1, k2, k3⟩, h3⟩)
    | (go_at_call 6; refine (H6.out _ (by first | exact h3.out.1 | exact h3.out.1.drew | exact below_drewN h3.out.1 _) p3 c3 (by first | exact h3.out.2 | exact h3.out.2.below ((Below.refl _ _).drew) | exact h3.out.2.below (below_drewN (Below.refl _ _) _))).mono ?_; rintro e w4 ⟨rfl, h4⟩))
  all_goals
    go_wp2_with fail
    go_ret
    exact ⟨by simp, HB2.out.1.trans (h4.out.mono HB2.out.1.size)⟩
end Go.Proofs.YtcgaekaollhmpaaGreat
