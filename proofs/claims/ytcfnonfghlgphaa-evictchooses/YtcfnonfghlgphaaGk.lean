/-
  Choose.
-/
import Derived.Test.YtcfnonfghlgphaaGj
namespace Go.Proofs.Ytcfnonfghlgphaa
open Go.RowKit Go.Maps

theorem vr_va {b : Nat} {w : World} {q : Option Addr} {n c : Nat} {L : List Vi} (h : VR b w (.slice q n c) L) : VA w q L := h.ga viC_len
theorem vr_mono {b b' : Nat} {w : World} {v : Value} {L : List Vi} (h : VR b w v L) (hb : b' ≤ b) : VR b' w v L := ⟨h.1, by
  rcases h.2 with h | ⟨g, cap, cur, e, hb1, rest⟩
  · exact .inl h
  · exact .inr ⟨g, cap, cur, e, Nat.le_trans hb hb1, rest⟩⟩
theorem chR_some {T : List V} {p : Int} {L : List Vi} {S : List Sl} (h1 : (fitR T S).1 = 0 ∨ (fitR T S).1 = 6) (h2 : Uj L) (h3 : (gvG L S).1 = 0) : chR T p L S = goA T (blw p (srtV L)) S := by
  unfold chR
  rw [if_neg (fun h => h h1), if_neg (fun h => h h2), if_neg (fun h => h h3)]
def R_len (R : List Vi) : Nat := R.length
abbrev XS (mb : Nat) (r : Option Addr) (m : Nat) : Nat → Prop := fun g => g = mb ∨ (r.map Addr.block = some g ∧ 0 < m)
/-- in the midst of a round -/
structure ChM (w wr : World) (T : List V) (R : List Vi) (S : List Sl) (L : List Vi) (lb mb k : Nat) (r : Option Addr) (m d : Nat) (v : Value) (J : List Int) : Prop where
  ss : SlS wr r m d (slA (R.take k) S)
  tu : TuS w wr lb (R.drop (k + 1)) v J (XS mb r m)
  mp : MpI wr mb L
section
variable {w wr w' : World} {T : List V} {R L : List Vi} {S : List Sl} {lb mb k m d kn en : Nat} {r pn : Option Addr} {v : Value} {J : List Int} {u : Vi}
theorem ChS.next (h : ChS w wr T R S L lb mb k r m d pn kn en v) (hu : R[k]? = some u) : Calls Try.prog 23 #[.pointer (some ⟨lb, 0, none⟩)] wr fun e w' => e = .returned (.tuple #[.int .i64 u.j, .int .i64 0]) ∧ Hid (ChM w w' T R S L lb mb k r m d v ((R.take k).map Vi.j)) := by
  have e1 : R.drop k = u :: R.drop (k + 1) := by
    obtain ⟨h1, h2⟩ := List.getElem?_eq_some_iff.1 hu
    rw [← h2]; exact List.drop_eq_getElem_cons h1
  have ht := h.tu
  rw [e1] at ht
  refine ht.next.mono ?_
  rintro e w' ⟨rfl, h1⟩
  exact ⟨rfl, h.ss.keep fun g e l => h1.out.2 g (.inr ⟨e, l⟩), h1.out.1, h.mp.keep (h1.out.2 mb (.inl rfl))⟩
theorem ChM.below (h : ChM w wr T R S L lb mb k r m d v J) (b : Below wr.heap.size wr w') : ChM w w' T R S L lb mb k r m d v J := ⟨h.ss.below b, h.tu.same b, h.mp.keep (b.block mb h.mp.lt)⟩
theorem ChM.app {x : Int} {v3 : Value} {w3 : World} (h : ChM w wr T R S L lb mb k r m d v J) (i : IR w.heap.size w3 v3 (J ++ [x])) (g : wr.grownBy w3 v.ownBlock) (hn : v3.ownBlock = v.ownBlock ∨ v3.ownBlock = some wr.heap.size) : ChM w w3 T R S L lb mb k r m d v3 (J ++ [x]) := by
  obtain ⟨h1, h2⟩ := h.tu.app i g hn
  exact ⟨h.ss.keep fun g e l => h2 g (.inr ⟨e, l⟩), h1, h.mp.keep (h2 mb (.inl rfl))⟩
theorem ChM.fin {w6 w7 : World} {p2 pn' : Option Addr} {c2 kn' en' : Nat} (h : ChM w wr T R S L lb mb k r m d v ((R.take (k + 1)).map Vi.j)) (b6 : Below wr.heap.size wr w6) (s6 : SlS w6 p2 m c2 (slA (R.take (k + 1)) S)) (n6 : ∀ g, p2.map Addr.block = some g → wr.heap.size ≤ g ∧ g < w6.heap.size) (b7 : Below w6.heap.size w6 w7) (hn : NA w7 pn' (fitR T (slA (R.take (k + 1)) S)).2) (hl : (fitR T (slA (R.take (k + 1)) S)).2.length = kn') (he : (fitR T (slA (R.take (k + 1)) S)).1 = en') (hp : ∀ i, i < k + 1 → (fitR T (slA (R.take i) S)).1 ≠ 0) : ChS w w7 T R S L lb mb (k + 1) p2 m c2 pn' kn' en' v := by
  have b : Below wr.heap.size wr w7 := below_from b6 b7 b6.size
  refine ⟨s6.below b7, hn, hl, he, h.tu.below b fun g e => ?_, h.mp.keep (b.block mb h.mp.lt), hp⟩
  rcases e with e | ⟨e, l⟩
  · subst e; exact ⟨Nat.lt_of_lt_of_le h.mp.lt b.size, .inl (.inl rfl)⟩
  · obtain ⟨q1, q2⟩ := n6 g e
    exact ⟨Nat.lt_of_lt_of_le q2 b7.size, .inr q1⟩
end
set_option maxHeartbeats 4000000 in
set_option maxRecDepth 100000 in
theorem choose_any (p : Int) (T : List V) (L : List Vi) (S : List Sl) (q qv r : Option Addr) (n c nv cv m d : Nat) (w : World) (hA : ChA w q n c T qv nv L r m d S) :
    Calls Try.prog 15 #[.slice q n c, .int .i64 p, .slice qv nv cv, .slice r m d] w (ChoP w T p L S) := by
  have H19 : Hid (Calls Try.prog 19 #[.slice q n c, .slice r m d] w (FtO w T S)) := fit_o T S q r n c m d w hA.t hA.tn hA.s hA.n1 hA.m1
  have HA : Hid (ChA w q n c T qv nv L r m d S) := hA
  clear hA
  by_cases h1 : (fitR T S).1 = 0 ∨ (fitR T S).1 = 6
  · have H21 : Hid (∀ w1, Below w.heap.size w w1 → Calls Try.prog 21 #[.slice qv nv cv] w1 (PlcP w1 L)) := fun w1 b => places_any L qv nv cv w1 (HA.out.v.below b) HA.out.o.in6 HA.out.vl HA.out.l1
    by_cases h2 : Uj L
    · have H21' : Hid (∀ w1, Below w.heap.size w w1 → Calls Try.prog 21 #[.slice qv nv cv] w1 fun e w' => ∃ mb, e = .returned (.tuple #[.map (some mb), .int .i64 0]) ∧ Hid (w1.heap.size ≤ mb ∧ MpI w' mb L ∧ Below w1.heap.size w1 w')) := fun w1 b => by
        refine (H21.out w1 b).mono ?_
        rintro e w' ⟨mv, rfl, h⟩
        obtain ⟨mb, rfl, q1, q2⟩ := h.out.1 h2
        exact ⟨mb, by rw [if_pos h2], q1, q2, h.out.2⟩
      have H26 : Hid (∀ w1, Below w.heap.size w w1 → Calls Try.prog 26 #[.slice qv nv cv, .slice r m d] w1 fun e w' => e = .returned (.int .i64 ((gvG L S).1 : Nat)) ∧ Hid (Below w1.heap.size w1 w')) := fun w1 b => given_any L S qv r nv cv m d w1 (HA.out.v.below b) (HA.out.o.below b) (HA.out.s.below b) HA.out.vl HA.out.l1 HA.out.m1
      by_cases h3 : (gvG L S).1 = 0
      · have hS : Hid (allS S = true) := (chk_ok (fitR_chk h1)).2.1
        have HG : Hid (chk T S = 0 ∧ Gv L S ∧ Uj L) := ⟨fitR_chk h1, all_give L S hS.out h3, h2⟩
        have HR := chR_some (p := p) h1 h2 h3
        rw [h3] at H26
        have H27 : Hid (∀ w1, Below w.heap.size w w1 → Calls Try.prog 27 #[.int .i64 p, .slice qv nv cv] w1 (BlwP w1 p L)) := fun w1 b => below_any p L qv nv cv w1 (HA.out.v.below b) HA.out.vl HA.out.l1
        have H22 : Hid (∀ w1, Below w.heap.size w w1 → ∀ q n c, VR w.heap.size w1 (.slice q n c) (blw p L) → Calls Try.prog 22 #[.slice q n c] w1 (LndR w1 (blw p L))) := fun w1 b q n c hv => lined_any w1 q n c (blw p L) (vr_va hv) (fun u hu => (HA.out.o u ((List.mem_filter.1 hu).1)).in6) (List.Pairwise.sublist List.filter_sublist HG.out.2.2) hv.len.symm (by have := hv.len; have := blw_le p L; have := HA.out.vl; have := HA.out.l1; omega)
        have HH : Hid (chR T p L S = goA T (blw p (srtV L)) S) := HR
        have HE : Hid ((fitR T S).1 = 0 ∨ (fitR T S).1 = 6) := h1
        clear H21 h1 h2 h3 HR
        go_enter Try.func15, Try.ntmps15
        go_upto_region 2 with (go_at_call 19; refine H19.out.mono ?_; rintro e w1 ⟨pn, kn, cn, rfl, f1⟩)
        have B1 : Hid (Below w.heap.size w w1) := f1.out.2.2
        have F1 : Hid ((fitR T S).2.length = kn ∧ NA w1 pn (fitR T S).2) := ⟨f1.out.1, f1.out.2.1⟩
        have HW : Hid (chk T S = 0) := HG.out.1
        obtain ⟨en, hen⟩ : ∃ en, (fitR T S).1 = en := ⟨_, rfl⟩
        have HEN : Hid ((fitR T S).1 = en ∧ (en = 0 ∨ en = 6)) := ⟨hen, by have := HE.out; rw [hen] at this; exact this⟩
        rw [hen]
        clear hen f1 HE
        rcases HEN.out.2 with rfl | rfl
        all_goals
          go_upto_region 7 with (go_at_call 21; refine (H21'.out _ B1.out).mono ?_; rintro e w2 ⟨mb, rfl, f2⟩)
          have B2 : Hid (Below w.heap.size w w2) := below_from B1.out f2.out.2.2 B1.out.size
          go_upto_region 10 with (go_at_call 26; refine (H26.out _ B2.out).mono ?_; rintro e w3 ⟨rfl, f3⟩)
          have B3 : Hid (Below w.heap.size w w3) := below_from B2.out f3.out B2.out.size
          go_upto_region 12 with (first | (go_at_call 27; refine (H27.out _ B3.out).mono ?_; rintro e w4 ⟨qb, nb, cb, rfl, lnb, f4⟩; have B4 : Hid (Below w.heap.size w w4) := below_from B3.out f4.out.2 B3.out.size; have V4 : Hid (VR w.heap.size w4 (.slice qb nb cb) (blw p L)) := (vr_mono f4.out.1 B3.out.size)) | (go_at_call 22; refine (H22.out _ B4.out _ _ _ V4.out).mono ?_; rintro e w5 ⟨lb, rfl, f5⟩))
          have C0 : Hid (∃ en, (en = (fitR T S).1) ∧ ChS w w5 T (blw p (srtV L)) S L lb mb 0 r m d pn kn en (.slice none 0 0)) := by
            have b25 : Below w2.heap.size w2 w5 := (f3.out.trans (f4.out.2.mono f3.out.size)).trans (f5.out.2.b.mono (Nat.le_trans f3.out.size f4.out.2.size))
            have b15 : Below w1.heap.size w1 w5 := f2.out.2.2.trans (b25.mono f2.out.2.2.size)
            have hml := f2.out.2.1.lt
            have h24 := Nat.le_trans f3.out.size f4.out.2.size
            have hln := f5.out.2
            rw [srt_blw p HG.out.2.2] at hln
            refine ⟨_, rfl, ?_, ?_, ?_, ?_, ⟨hln.from B4.out fun x e => ?_, GRow.nil _ _ _ _ _, fun _ _ e => by cases e⟩, f2.out.2.1.keep (b25.block mb hml), fun i hi => absurd hi (Nat.not_lt_zero _)⟩
            · rw [List.take_zero, slA_nil]; exact (HA.out.s.below B1.out).below b15
            · rw [List.take_zero, slA_nil]; exact F1.out.2.below b15
            · rw [List.take_zero, slA_nil]; exact F1.out.1
            · rw [List.take_zero, slA_nil]
            · rcases e with e | e | ⟨e, l⟩
              · cases e
              · subst e; exact Nat.lt_of_lt_of_le hml h24
              · exact Nat.lt_of_lt_of_le (sls_lt HA.out.s e l) B4.out.size
          rw [HEN.out.1] at C0
          obtain ⟨en0, he0, C1⟩ := C0.out
          subst he0
          have C2 : Hid (ChS w w5 T (blw p (srtV L)) S L lb mb 0 r m d pn kn _ (.slice none 0 0)) := C1
          clear C0 C1 H19 H21' H22 H26 H27 f2 f3 f4 f5 lnb B1 B2 B3 B4 V4 F1 HEN
          have HX : Hid (∀ w1 : World, Below w.heap.size w w1 → ChA w1 q n c T qv nv L r m d S) := fun w1 b => HA.out.below b
          have HF : Hid (∀ k, (fitR T (slA ((blw p (srtV L)).take k) S)).1 = 0 ∨ (fitR T (slA ((blw p (srtV L)).take k) S)).1 = 6) := fun k => go_fit HG.out.1 HG.out.2.1 k
          have HP : Hid (∀ k u, (blw p (srtV L))[k]? = some u → movR addR u.T u.N (slA ((blw p (srtV L)).take k) S) = (0, slA ((blw p (srtV L)).take (k + 1)) S)) := fun k u hu => go_step hS.out HG.out.2.1 hu
          have HU : Hid (∀ u ∈ blw p (srtV L), ∃ i, plv u.j L = some i ∧ L[i]? = some u ∧ u.ok w) := fun u hu => by
            have hm := (srtV_perm L).mem_iff.1 (List.mem_filter.1 hu).1
            obtain ⟨i, h1, h2⟩ := plv_uj HG.out.2.2 hm
            exact ⟨i, h1, h2, HA.out.o u hm⟩
          have HV : Hid (VA w qv L ∧ L.length = nv) := ⟨HA.out.v, HA.out.vl⟩
          have HB : Hid (n ≤ 1000000 ∧ nv ≤ 1000000 ∧ m ≤ 1000000 ∧ TA w q T ∧ T.length = n ∧ R_len (blw p (srtV L)) ≤ 1000000) := ⟨HA.out.n1, HA.out.l1, HA.out.m1, HA.out.t, HA.out.tn, by
            have := blw_le p (srtV L)
            have := (srtV_perm L).length_eq
            have := HA.out.vl
            have := HA.out.l1
            unfold R_len
            omega⟩
          clear HX HA hS HG
          generalize blw p (srtV L) = R at *
          go_wp2_with fail
          go_loopw [3, 11, 12, 16] (fun x3 x11 x12 x16 wr => ∃ (k : Nat) (r' : Option Addr) (d' : Nat) (pn : Option Addr) (kn cn en : Nat) (pj : Option Addr) (cj : Nat), x3 = .slice r' m d' ∧ x11 = .slice pn kn cn ∧ x12 = .int .i64 (en : Nat) ∧ x16 = .slice pj k cj ∧ k ≤ R.length ∧ Hid (ChS w wr T R S L lb mb k r' m d' pn kn en (.slice pj k cj))) (fun _ _ _ x16 _ => R.length - lenV x16)
          case atStart => exact ⟨0, r, d, pn, kn, cn, _, none, 0, rfl, rfl, rfl, rfl, Nat.zero_le _, C2.out⟩
          case round =>
            clear C2
            obtain ⟨k, r', d', pn, kn, cn, en, pj, cj, rfl, rfl, rfl, rfl, hk, HC⟩ := hrel
            have hE := HF.out k
            rw [HC.out.er] at hE
            rcases hE with rfl | rfl
            · have HD : Hid (chR T p L S = (0, R.take k, (fitR T (slA (R.take k) S)).2)) := HH.out.trans (goA_some (goN_some hk HC.out.er HC.out.pr))
              go_wp2_with fail
              go_ret3
              unfold ChoP
              rw [HD.out]
              exact ⟨pj, k, cj, pn, kn, cn, rfl, by show (R.take k).length = k; rw [List.length_take]; omega, HC.out.ln, HC.out.tu.r, HC.out.na, HC.out.tu.l.b⟩
            · by_cases hkR : k = R.length
              · have HD : Hid (chR T p L S = (6, [], [])) := HH.out.trans (goA_none (goN_none fun i hi => by
                  by_cases q : i = k
                  · rw [q, HC.out.er]; decide
                  · exact HC.out.pr i (by omega)))
                have H23 : Hid (Calls Try.prog 23 #[.pointer (some ⟨lb, 0, none⟩)] wr fun e w' => e = .returned (.tuple #[.int .i64 0, .int .i64 3]) ∧ Below wr.heap.size wr w') := by
                  have h1 := HC.out.tu.l
                  rw [List.drop_eq_nil_of_le (Nat.le_of_eq hkR.symm)] at h1
                  exact next_none h1
                have HB9 : Hid (Below w.heap.size w wr) := HC.out.tu.l.b
                clear hkR HC
                go_wp2_with (go_at_call 23; refine H23.out.mono ?_; rintro e w2 ⟨rfl, b2⟩)
                go_ret3
                exact ChoP.bad HD.out (below_from HB9.out b2 HB9.out.size)
              · obtain ⟨u, hu⟩ : ∃ u, R[k]? = some u := ⟨R[k]'(by omega), List.getElem?_eq_getElem _⟩
                obtain ⟨i, hi1, hi2, huo⟩ := HU.out u (List.mem_of_getElem? hu)
                have hiL : i < nv := by have := (List.getElem?_eq_some_iff.1 hi2).1; have := HV.out.2; omega
                have hiL' : (i : Int) < (nv : Int) := by omega
                have hi63 : (i : Int) < 9223372036854775808 := by have := HB.out.2.1; omega
                have hk6 : k ≤ 1000000 := by have := HB.out.2.2.2.2.2; unfold R_len at this; omega
                have hmv := HP.out k u hu
                have ht : (R.take (k + 1)).map Vi.j = (R.take k).map Vi.j ++ [u.j] := by rw [take_next hu, List.map_append]; rfl
                have H23 : Hid (Calls Try.prog 23 #[.pointer (some ⟨lb, 0, none⟩)] wr fun e w' => e = .returned (.tuple #[.int .i64 u.j, .int .i64 0]) ∧ Hid (ChM w w' T R S L lb mb k r' m d' (.slice pj k cj) ((R.take k).map Vi.j))) := HC.out.next hu
                have H20 : Hid (∀ w5 : World, Below w.heap.size w w5 → SlS w5 r' m d' (slA (R.take k) S) → Calls Try.prog 20 #[.slice u.qT u.nT u.cT, .slice u.qN u.nN u.cN, .slice r' m d'] w5 fun e w' => ∃ p2 c2, e = .returned (.tuple #[.slice p2 m c2, .int .i64 0]) ∧ Hid (Below w5.heap.size w5 w' ∧ SlS w' p2 m c2 (slA (R.take (k + 1)) S) ∧ (∀ g, p2.map Addr.block = some g → w5.heap.size ≤ g ∧ g < w'.heap.size))) := fun w5 b5 s5 => by
                  refine (before_vi u (slA (R.take k) S) r' m d' w5 (huo.below b5) s5 HB.out.2.2.1).mono ?_
                  rintro e w' ⟨p2, k2, c2, rfl, h⟩
                  rw [hmv] at h ⊢
                  obtain ⟨q1, q2⟩ := h.out.2 rfl
                  have : k2 = m := by
                    rw [← q1.m, ← s5.m, slA_length, slA_length]
                  subst this
                  exact ⟨p2, c2, rfl, h.out.1, q1, q2⟩
                have H19 : Hid (∀ w6 : World, Below w.heap.size w w6 → ∀ p2 c2, SlS w6 p2 m c2 (slA (R.take (k + 1)) S) → Calls Try.prog 19 #[.slice q n c, .slice p2 m c2] w6 (FtO w6 T (slA (R.take (k + 1)) S))) := fun w6 b6 p2 c2 s6 => fit_o T _ q p2 n c m c2 w6 (HB.out.2.2.2.1.below b6) HB.out.2.2.2.2.1 s6 HB.out.1 HB.out.2.2.1
                have HJ : Hid ((R.take (k + 1)).map Vi.j = (R.take k).map Vi.j ++ [u.j]) := ht
                have HPR : Hid (∀ i, i < k + 1 → (fitR T (slA (R.take i) S)).1 ≠ 0) := fun i hi => by
                  by_cases q : i = k
                  · rw [q, HC.out.er]; decide
                  · exact HC.out.pr i (by omega)
                have HLK : Hid (∀ W : World, MpI W mb L → Below w.heap.size w W → (Instr.lookup 56 (.map (some mb)) (.int .i64 u.j) false).run Try.prog W = .ok (.int .i64 (i : Int)) W ∧ ∃ g o, qv = some ⟨g, o, none⟩ ∧ W.cell? ⟨g, o + i * 5, none⟩ = some (.int .i64 u.j) ∧ W.cell? ⟨g, o + i * 5 + 1, none⟩ = some (.int .i64 u.p) ∧ W.cell? ⟨g, o + i * 5 + 2, none⟩ = some (.int .i64 u.s) ∧ W.cell? ⟨g, o + i * 5 + 3, none⟩ = some (.slice u.qT u.nT u.cT) ∧ W.cell? ⟨g, o + i * 5 + 4, none⟩ = some (.slice u.qN u.nN u.cN)) := fun W hm b => ⟨hm.get u.j huo.j hi1, VA.at (HV.out.1.below b) hi2⟩
                have HB9 : Hid (Below w.heap.size w wr) := HC.out.tu.l.b
                have hkl : Hid (k < R.length) := by show k < _; omega
                clear hkR HC hu hi1 hi2 huo hmv ht
                go_upto_region 16 with (go_at_call 23; refine H23.out.mono ?_; rintro e w2 ⟨rfl, h2⟩)
                go_upto_region 17 with (at_builtin; refine append_j (B := w.heap.size) rfl _ _ rfl pj k cj ((R.take k).map Vi.j) u.j rfl (h2.out.tu.r.below ((Below.refl _ _).alloc (Nat.le_refl _) _)) (Nat.le_trans h2.out.tu.l.b.size (by simp)) _ 1 rfl (Lib.cell_of_heap new0 0) (by omega) ?_; intro p3 c3 w4 hr4 hg4 hn4)
                have M4 : Hid (ChM w w4 T R S L lb mb k r' m d' (.slice p3 (k + 1) c3) ((R.take (k + 1)).map Vi.j)) := by
                  show ChM _ _ _ _ _ _ _ _ _ _ _ _ _ _
                  rw [HJ.out]
                  exact (h2.out.below ((Below.refl _ _).alloc (Nat.le_refl _) _)).app hr4 hg4 hn4
                have B4 : Hid (Below w.heap.size w w4) := M4.out.tu.l.b
                clear hr4 hg4 hn4 h2 H23
                obtain ⟨hlk, gq, oq, rfl, c0, c1, c2, c3', c4⟩ := HLK.out w4 M4.out.mp B4.out
                clear HLK HV
                have H20' := H20.out (w4.alloc (.cells #[.int .i64 u.j, .int .i64 u.p, .int .i64 u.s, .slice u.qT u.nT u.cT, .slice u.qN u.nN u.cN] 49)) (B4.out.alloc B4.out.size _) (M4.out.below ((Below.refl _ _).alloc (Nat.le_refl _) _)).ss
                have N5 := new0 (w := w4) (o := .cells #[.int .i64 u.j, .int .i64 u.p, .int .i64 u.s, .slice u.qT u.nT u.cT, .slice u.qN u.nN u.cN] 49)
                have B5 : Hid (Below w4.heap.size w4 (w4.alloc (.cells #[.int .i64 u.j, .int .i64 u.p, .int .i64 u.s, .slice u.qT u.nT u.cT, .slice u.qN u.nN u.cN] 49))) := (Below.refl _ _).alloc (Nat.le_refl _) _
                clear H20
                go_upto_region 18 with fail
                generalize w4.alloc (.cells #[.int .i64 u.j, .int .i64 u.p, .int .i64 u.s, .slice u.qT u.nT u.cT, .slice u.qN u.nN u.cN] 49) = W5 at *
                have H20 : Hid (Calls Try.prog 20 #[.slice u.qT u.nT u.cT, .slice u.qN u.nN u.cN, .slice r' m d'] W5 fun e w' => ∃ p2 c2, e = .returned (.tuple #[.slice p2 m c2, .int .i64 0]) ∧ Hid (Below W5.heap.size W5 w' ∧ SlS w' p2 m c2 (slA (R.take (k + 1)) S) ∧ (∀ g, p2.map Addr.block = some g → W5.heap.size ≤ g ∧ g < w'.heap.size))) := H20'
                have d3 := Lib.cell_of_heap N5 3
                have d4 := Lib.cell_of_heap N5 4
                have hd5 := (Array.getElem?_eq_some_iff.1 N5).1
                clear H20' c0 c1 c2 c3' c4 hlk
                go_upto_region 19 with (go_at_call 20; refine H20.out.mono ?_; rintro e w6 ⟨p2, c2, rfl, h6⟩)
                have B6 : Hid (Below w.heap.size w w6) := below_from (below_from B4.out B5.out B4.out.size) h6.out.1 (Nat.le_trans B4.out.size B5.out.size)
                have H19' : Hid (Calls Try.prog 19 #[.slice q n c, .slice p2 m c2] w6 (FtO w6 T (slA (R.take (k + 1)) S))) := H19.out w6 B6.out p2 c2 h6.out.2.1
                clear H19 H20 d3 d4 hd5 N5
                go_wp2_with (go_at_call 19; refine H19'.out.mono ?_; rintro e w7 ⟨pn', kn', cn', rfl, h7⟩)
                refine ⟨⟨k + 1, p2, c2, pn', kn', cn', _, p3, c3, rfl, rfl, rfl, rfl, hkl.out, M4.out.fin (below_from B5.out h6.out.1 B5.out.size) h6.out.2.1 (fun g e => ⟨Nat.le_trans B5.out.size (h6.out.2.2 g e).1, (h6.out.2.2 g e).2⟩) h7.out.2.2 h7.out.2.1 h7.out.1 rfl HPR.out⟩, ?_⟩
                have := hkl.out
                simp only [lenV]
                show R.length - (k + 1) < R.length - k
                omega
      · have HD : Hid (chR T p L S = ((gvG L S).1, [], [])) := by
          show _ = _
          unfold chR
          rw [if_neg (fun h => h h1), if_neg (fun h => h h2), if_pos h3]
        have HE : Hid ((fitR T S).1 = 0 ∨ (fitR T S).1 = 6) := h1
        generalize (gvG L S).1 = gn at *
        have e1 : ¬ (gn : Int) = 0 := by omega
        have e2 : ((gn : Int) == 0) = false := by rw [beq_eq_false_iff_ne]; exact e1
        clear h1 h2 h3 H21
        go_enter Try.func15, Try.ntmps15
        go_upto_region 2 with (go_at_call 19; refine H19.out.mono ?_; rintro e w1 ⟨pn, kn, cn, rfl, f1⟩)
        have B1 : Hid (Below w.heap.size w w1) := f1.out.2.2
        clear f1 H19
        generalize (fitR T S).1 = en at *
        rcases HE.out with rfl | rfl
        all_goals
          go_upto_region 7 with (go_at_call 21; refine (H21'.out _ B1.out).mono ?_; rintro e w2 ⟨mb, rfl, f2⟩)
          have B2 : Hid (Below w.heap.size w w2) := below_from B1.out f2.out.2.2 B1.out.size
          go_wp2_with (go_at_call 26; refine (H26.out _ B2.out).mono ?_; rintro e w3 ⟨rfl, f3⟩)
          go_ret3
          exact ChoP.bad HD.out (below_from B2.out f3.out B2.out.size)
    · have HD : Hid (chR T p L S = (5, [], [])) := by
        show _ = _
        unfold chR
        rw [if_neg (fun h => h h1), if_pos h2]
      have HE : Hid ((fitR T S).1 = 0 ∨ (fitR T S).1 = 6) := h1
      have H21' : Hid (∀ w1, Below w.heap.size w w1 → Calls Try.prog 21 #[.slice qv nv cv] w1 fun e w' => ∃ mv, e = .returned (.tuple #[.map mv, .int .i64 5]) ∧ Hid (Below w1.heap.size w1 w')) := fun w1 b => by
        refine (H21.out w1 b).mono ?_
        rintro e w' ⟨mv, rfl, h⟩
        exact ⟨mv, by rw [if_neg h2], h.out.2⟩
      clear h1 h2 H21
      go_enter Try.func15, Try.ntmps15
      go_upto_region 2 with (go_at_call 19; refine H19.out.mono ?_; rintro e w1 ⟨pn, kn, cn, rfl, f1⟩)
      have B1 : Hid (Below w.heap.size w w1) := f1.out.2.2
      clear f1 H19
      generalize (fitR T S).1 = en at *
      rcases HE.out with rfl | rfl
      all_goals
        go_wp2_with (go_at_call 21; refine (H21'.out _ B1.out).mono ?_; rintro e w2 ⟨mb, rfl, f2⟩)
        go_ret3
        exact ChoP.bad HD.out (below_from B1.out f2.out B1.out.size)
  · have HD : Hid (chR T p L S = ((fitR T S).1, [], [])) := by
      show _ = _
      unfold chR
      rw [if_pos h1]
    have HB1 : Hid (∀ e w', FtO w T S e w' → ∃ pn kn cn, e = .returned (.tuple #[.slice pn kn cn, .int .i64 ((fitR T S).1 : Nat)]) ∧ Hid (Below w.heap.size w w')) := fun e w' ⟨pn, kn, cn, h, f⟩ => ⟨pn, kn, cn, h, f.out.2.2⟩
    have H19' : Hid (Calls Try.prog 19 #[.slice q n c, .slice r m d] w fun e w' => ∃ pn kn cn, e = .returned (.tuple #[.slice pn kn cn, .int .i64 ((fitR T S).1 : Nat)]) ∧ Hid (Below w.heap.size w w')) := H19.out.mono HB1.out
    generalize (fitR T S).1 = en at *
    have e0 : ¬ en = 0 := fun h => h1 (.inl h)
    have e6 : ¬ en = 6 := fun h => h1 (.inr h)
    have e1 : ¬ (en : Int) = 0 := by omega
    have e2 : ((en : Int) == 0) = false := by rw [beq_eq_false_iff_ne]; exact e1
    have e3 : ¬ (en : Int) = 6 := by omega
    have e4 : ((en : Int) == 6) = false := by rw [beq_eq_false_iff_ne]; exact e3
    have e5 : ((en : Int) != 0 && (en : Int) != 6) = true := by unfold bne; rw [e2, e4]; rfl
    clear h1 e0 e6 HB1 H19
    go_enter Try.func15, Try.ntmps15
    go_wp2_with (go_at_call 19; refine H19'.out.mono ?_; rintro e w1 ⟨pn, kn, cn, rfl, f1⟩)
    go_ret3
    exact ChoP.bad HD.out f1.out
end Go.Proofs.Ytcfnonfghlgphaa
