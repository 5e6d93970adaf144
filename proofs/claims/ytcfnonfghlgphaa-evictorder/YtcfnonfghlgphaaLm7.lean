/-
  The law EvictOrder.
-/
import Derived.Test.YtcfnonfghlgphaaGn
namespace Go.Proofs.Ytcfnonfghlgphaa
open Go.RowKit Go.Maps

set_option maxHeartbeats 4000000 in
set_option maxRecDepth 100000 in
theorem order_law (q qv r : Option Addr) (n c nv cv m d : Nat) (T : List V) (L : List Vi) (S : List Sl) (w : World) (hA : LwA w q n c T qv nv L r m d S) :
    Calls Try.prog 7 #[.slice q n c, .slice qv nv cv, .slice r m d] w fun e w' => e = .returned (.bool true) ∧ Below w.heap.size w w' := by
  have H9 : Hid (∀ W, Calls Try.prog 9 #[] W fun e w' => e = .returned (.bool true) ∧ Below W.heap.size W w') := awake17
  have H14 : Hid (∀ W, Below w.heap.size w W → Calls Try.prog 14 #[.slice q n c, .slice qv nv cv, .slice r m d] W fun e w' => e = .returned (.bool (fewV n L m)) ∧ Hid (Below W.heap.size W w')) := hA.few cv
  have HA : Hid (LwA w q n c T qv nv L r m d S) := hA
  clear hA
  cases hf : fewV n L m with
  | false =>
    rw [hf] at H14
    clear hf
    go_enter Try.func7, Try.ntmps7
    go_upto_region 2 with (first | (go_at_call 9; refine (H9.out _).mono ?_; rintro e w1 ⟨rfl, b1⟩) | (go_at_call 14; refine (H14.out _ b1).mono ?_; rintro e w2 ⟨rfl, b2⟩))
    have B2 : Hid (Below w.heap.size w w2) := below_from b1 b2.out b1.size
    clear b1 b2
    go_wp2_with (go_at_call 9; refine (H9.out _).mono ?_; rintro e w3 ⟨rfl, b3⟩)
    go_ret
    exact ⟨rfl, below_from B2.out b3 B2.out.size⟩
  | true =>
    have HC : Hid (ChA w q n c T qv nv L r m d S) := HA.out.ch hf
    have hnv : nv ≤ 1000000 := HC.out.l1
    rw [hf] at H14
    clear hf HA
    go_enter Try.func7, Try.ntmps7
    go_upto_region 4 with (first | (go_at_call 9; refine (H9.out _).mono ?_; rintro e w1 ⟨rfl, b1⟩) | (go_at_call 14; refine (H14.out _ b1).mono ?_; rintro e w2 ⟨rfl, b2⟩))
    have B2 : Hid (Below w.heap.size w w2) := below_from b1 b2.out b1.size
    clear b1 b2 H9 H14
    go_wp2_with fail
    go_loopw [7, 8] (fun x y wr => ∃ (k j : Nat) (pr : Option Addr) (cr : Nat), x = .slice pr k cr ∧ y = .int .i64 ((j : Int) - 1) ∧ k + j = nv ∧ Hid (VR w.heap.size wr (.slice pr k cr) (L.reverse.take k) ∧ Below w.heap.size w wr)) (fun _ y _ => (intOf y + 1).toNat)
    case atStart => exact ⟨0, nv, none, 0, rfl, rfl, Nat.zero_add _, GRow.nil _ _ _ _ _, B2.out⟩
    case round =>
      clear B2
      obtain ⟨k, j, pr, cr, rfl, rfl, hk, HB⟩ := hrel
      cases j with
      | zero =>
        obtain rfl : k = nv := hk
        have hz : ((0 : Nat) : Int) - 1 = -1 := rfl
        rw [hz]
        clear hz
        have HV : Hid (ChA wr q n c T qv k L r m d S ∧ ChA wr q n c T pr k L.reverse r m d S ∧ Below w.heap.size w wr) := by
          have h1 := HC.out.below HB.out.2
          have h2 := HB.out.1
          rw [List.take_of_length_le (by rw [List.length_reverse]; exact Nat.le_of_eq HC.out.vl)] at h2
          exact ⟨h1, ⟨h1.t, h1.ct, h1.tn, vr_va h2, fun v hv => h1.o v (List.mem_reverse.1 hv), by rw [List.length_reverse]; exact h1.vl, h1.s, h1.n1, h1.l1, h1.m1⟩, HB.out.2⟩
        have H15a : Hid (Calls Try.prog 15 #[.slice q n c, .int .i64 50, .slice qv k cv, .slice r m d] wr (ChoP wr T 50 L S)) := choose_any 50 T L S q qv r n c k cv m d wr HV.out.1
        have H15b : Hid (∀ W, Below wr.heap.size wr W → Calls Try.prog 15 #[.slice q n c, .int .i64 50, .slice pr k cr, .slice r m d] W (ChoP W T 50 L.reverse S)) := fun W b => choose_any 50 T L.reverse S q pr r n c k cr m d W (HV.out.2.1.below b)
        have hp : L.Perm L.reverse := (List.reverse_perm L).symm
        by_cases he : (chR T 50 L S).1 = 0
        · obtain ⟨G, N, hg⟩ : ∃ G N, chR T 50 L S = (0, G, N) := by
            obtain ⟨_, _, _, k, _, h⟩ := chR_ok he
            exact ⟨_, _, h⟩
          have hm : chR T 50 L.reverse S = (0, G, N) := (ch_perm hp he).trans hg
          have HG : Hid (G.length ≤ 1000000 ∧ N.length ≤ 1000000) := by
            obtain ⟨h1, _, _, k, h5, h⟩ := chR_ok he
            rw [h] at hg
            cases hg
            constructor
            · rw [List.length_take]
              have h2 := blw_le 50 (srtV L)
              have h3 := (srtV_perm L).length_eq
              have := HC.out.vl
              omega
            · have h2 := fitR_le T (slA ((blw 50 (srtV L)).take k) S)
              have := HC.out.n1
              have := HC.out.tn
              omega
          have H15a' : Hid (Calls Try.prog 15 #[.slice q n c, .int .i64 50, .slice qv k cv, .slice r m d] wr (ChG wr G N)) := H15a.out.mono fun e w' h => h.good hg
          have H15b' : Hid (∀ W, Below wr.heap.size wr W → Calls Try.prog 15 #[.slice q n c, .int .i64 50, .slice pr k cr, .slice r m d] W (ChG W G N)) := fun W b => (H15b.out W b).mono fun e w' h => h.good hm
          have BW : Hid (Below w.heap.size w wr) := HV.out.2.2
          clear he hg hm H15a H15b HV HB HC hp
          go_upto_region 9 with (go_at_call 15; refine H15a'.out.mono ?_; rintro e w3 ⟨pj, cj, pn, cn, rfl, h3⟩)
          have B3 : Hid (Below w.heap.size w w3) := below_from BW.out h3.out.2.2 BW.out.size
          go_upto_region 10 with (go_at_call 15; refine (H15b'.out _ h3.out.2.2).mono ?_; rintro e w4 ⟨pj2, cj2, pn2, cn2, rfl, h4⟩)
          have B4 : Hid (Below w.heap.size w w4) := below_from B3.out h4.out.2.2 B3.out.size
          have H13 : Hid (Calls Try.prog 13 #[.slice pj G.length cj, .slice pj2 G.length cj2] w4 fun e w' => e = .returned (.bool true) ∧ Hid (Below w4.heap.size w4 w')) := sames_any w4 G.length cj cj2 pj pj2 (G.map Vi.j) (h3.out.1.below h4.out.2.2) h4.out.1 (by show _ = _; rw [List.length_map]) HG.out.1
          have H18 : Hid (∀ W, Below w4.heap.size w4 W → Calls Try.prog 18 #[.slice pn N.length cn, .slice pn2 N.length cn2] W fun e w' => e = .returned (.bool true) ∧ Hid (Below W.heap.size W w')) := fun W b => same_any W N.length cn cn2 pn pn2 N ((h3.out.2.1.below h4.out.2.2).below b) (h4.out.2.1.below b) (rfl : _ = _) HG.out.2
          clear h3 h4 H15a' H15b'
          go_wp2_with (first | (go_at_call 13; refine H13.out.mono ?_; rintro e w5 ⟨rfl, b5⟩) | (go_at_call 18; refine (H18.out _ b5.out).mono ?_; rintro e w6 ⟨rfl, b6⟩))
          go_ret
          exact ⟨rfl, below_from (below_from B4.out b5.out B4.out.size) b6.out (Nat.le_trans B4.out.size b5.out.size)⟩
        · have he2 := ch_perm0 hp he
          obtain ⟨en, hen⟩ : ∃ en, (chR T 50 L S).1 = en := ⟨_, rfl⟩
          obtain ⟨fn, hfn⟩ : ∃ fn, (chR T 50 L.reverse S).1 = fn := ⟨_, rfl⟩
          have hc := chR_bad he
          have hc2 := chR_bad he2
          rw [hen] at hc he
          rw [hfn] at hc2 he2
          have e1 : ¬ (en : Int) = 0 := by omega
          have e2 : ((en : Int) == 0) = false := by rw [beq_eq_false_iff_ne]; exact e1
          have f1 : ¬ (fn : Int) = 0 := by omega
          have f2 : ((fn : Int) == 0) = false := by rw [beq_eq_false_iff_ne]; exact f1
          have f3 : ((fn : Int) != 0) = true := by unfold bne; rw [f2]; rfl
          have H15a' : Hid (Calls Try.prog 15 #[.slice q n c, .int .i64 50, .slice qv k cv, .slice r m d] wr fun e w' => ∃ pj cj pn cn, e = .returned (.tuple #[.slice pj 0 cj, .slice pn 0 cn, .int .i64 (en : Int)]) ∧ Hid (Below wr.heap.size wr w')) := H15a.out.mono fun e w' h => h.no hc
          have H15b' : Hid (∀ W, Below wr.heap.size wr W → Calls Try.prog 15 #[.slice q n c, .int .i64 50, .slice pr k cr, .slice r m d] W fun e w' => ∃ pj cj pn cn, e = .returned (.tuple #[.slice pj 0 cj, .slice pn 0 cn, .int .i64 (fn : Int)]) ∧ Hid (Below W.heap.size W w')) := fun W b => (H15b.out W b).mono fun e w' h => h.no hc2
          have BW : Hid (Below w.heap.size w wr) := HV.out.2.2
          clear hen hfn hc hc2 he he2 H15a H15b HV HB HC hp
          go_upto_region 9 with (go_at_call 15; refine H15a'.out.mono ?_; rintro e w3 ⟨pj, cj, pn, cn, rfl, h3⟩)
          have B3 : Hid (Below w.heap.size w w3) := below_from BW.out h3.out BW.out.size
          go_wp2_with (go_at_call 15; refine (H15b'.out _ h3.out).mono ?_; rintro e w4 ⟨pj2, cj2, pn2, cn2, rfl, h4⟩)
          go_ret
          exact ⟨rfl, below_from B3.out h4.out B3.out.size⟩
      | succ i =>
        have hi : ((i + 1 : Nat) : Int) - 1 = (i : Int) := by omega
        rw [hi]
        have hin : i < nv := by omega
        have hin' : (i : Int) < (nv : Int) := by omega
        have hi0 : (0 : Int) ≤ (i : Int) := by omega
        have hd0 : decide ((0 : Int) ≤ (i : Int)) = true := decide_eq_true hi0
        obtain ⟨v, hv⟩ : ∃ v, L[i]? = some v := ⟨L[i]'(by have := HC.out.vl; omega), List.getElem?_eq_getElem _⟩
        have hv2 : L.reverse[k]? = some v := by
          have := HC.out.vl
          rw [List.getElem?_reverse (by omega), show L.length - 1 - k = i by omega]
          exact hv
        obtain ⟨g, o, rfl, c0, c1, c2, c3, c4⟩ := VA.at (HC.out.v.below HB.out.2) hv
        have HE : Hid (L.reverse.take (k + 1) = L.reverse.take k ++ [v]) := take_next hv2
        have HV : Hid (∀ w g, w.heap[g]? = some (.cells #[.int .i64 v.j, .int .i64 v.p, .int .i64 v.s, .slice v.qT v.nT v.cT, .slice v.qN v.nN v.cN] 49 (0, 0)) → RowV w g 0 ([v].flatMap viC)) := fun w g h => row_one h rfl
        have hk6 : k ≤ 1000000 := by omega
        have HKJ : Hid (k + 1 + i = nv) := by show _ = _; omega
        clear hv hv2 hi hk
        generalize v.j = vj at *
        generalize v.p = vp at *
        generalize v.s = vs at *
        generalize v.qT = vqT at *
        generalize v.nT = vnT at *
        generalize v.cT = vcT at *
        generalize v.qN = vqN at *
        generalize v.nN = vnN at *
        generalize v.cN = vcN at *
        go_wp2_with (at_builtin; refine append_g (B := w.heap.size) viC_len viC_one Try.underlying22 info49 rfl (by decide) rfl _ _ rfl pr k cr (L.reverse.take k) rfl (HB.out.1.below ((Below.refl _ _).alloc (Nat.le_refl _) _)) (Nat.le_trans HB.out.2.size (by simp)) _ 0 1 1 [v] rfl rfl (HV.out _ _ new0) (by unfold maxLen; omega) (by omega) ?_; intro p3 c3' w3 hr3 hb3; have h3 : Hid (VR w.heap.size w3 (.slice p3 (k + 1) c3') (L.reverse.take (k + 1)) ∧ Below w.heap.size w w3) := (by show _ ∧ _; rw [HE.out]; exact ⟨hr3, (HB.out.2.alloc HB.out.2.size _).trans hb3⟩))
        refine ⟨⟨k + 1, i, p3, c3', rfl, rfl, HKJ.out, h3.out⟩, ?_⟩
        simp only [intOf]
        omega
end Go.Proofs.Ytcfnonfghlgphaa
