/-
  The document's reader: a job.
-/
import Derived.Test.YtnkkiepoljbhlaaDq
import Derived.Deep.RegionWith
namespace Go.Proofs.Ytnkkiepoljbhlaa
open Go.RowKit

theorem own_under {B C e size n : Nat} {w w' : World} {v : Value} {xs : List Value} (h : w.ownsRow B e size v n xs) (hv : ∀ g, v.ownBlock = some g → g < C) (b : Below C w w') : w'.ownsRow B e size v n xs := by
  refine ⟨h.1, ?_⟩
  rcases h.2 with h1 | ⟨g, cap, cur, h1, h2, h3, h4⟩
  · exact .inl h1
  · exact .inr ⟨g, cap, cur, h1, h2, (b.block g (hv g (by rw [h1]; rfl))).trans h3, h4⟩
theorem flat_app : ∀ (vs : List V4) (v : V4), flat (vs ++ [v]) = flat vs ++ [.int .i64 v.a, .int .i64 v.b, .int .i64 v.c, .int .i64 v.d]
  | [], v => rfl
  | u :: r, v => by
    show _ :: _ :: _ :: _ :: flat (r ++ [v]) = _
    rw [flat_app r v]
    rfl
theorem rf_put {w : World} {rb k a : Nat} {cs : Array Value} {l : List UInt8} {bad : Bool} (h : Rf w rb l a bad) (hk : rb < k) : Rf (w.setRow k cs) rb l a bad := by
  have hb : ∀ j, j ≠ k → (w.setRow k cs).heap[j]? = w.heap[j]? := fun j hj => setRow_other w k j cs hj
  obtain ⟨p, c, h1, h2⟩ := h
  refine ⟨p, c, (hb rb (by omega)).trans h1, ?_, h2.nc, h2.bl, h2.cm⟩
  rcases h2.ly with e | ⟨g, o, rfl, hrow⟩
  · exact .inl e
  · refine .inr ⟨g, o, rfl, fun i x hx => ?_⟩
    have h3 := (h2.bl _ rfl).1
    have h1 := hrow i x hx
    unfold World.cell? at h1 ⊢
    rw [hb g (by simp only at h3; omega)]
    exact h1
theorem res64 : Try.f64.results = #[.cell 2 30] := rfl
theorem back64 (tmps : Array Value) (w : World) (g : Nat) (cs : Array Value) (hp : tmps.getD 2 undef = .pointer (some ⟨g, 0, none⟩)) (hg : w.heap[g]? = some (.cells cs 30 (0, 0))) (hs : cs.size = 11) : (results Try.f64 tmps).run Try.prog w = .ok (.agg cs) w :=
  results_cell_row res64 tmps w g 30 cs (0, 0) _ hp hg Try.underlying30 rfl (by rw [hs]; exact size30)
set_option maxHeartbeats 4000000 in
set_option maxRecDepth 100000 in
theorem rjob_any (w : World) (rb at0 : Nat) (l : List UInt8) (bad : Bool) (h : Rf w rb l at0 bad) (ha : at0 ≤ l.length) : Calls Try.prog 64 #[.pointer (some ⟨rb, 0, none⟩)] w fun e w' => ∃ (j : JD) (pa tk : SL) (k : Nat) (bad' : Bool), e = .returned (.agg (j.jb pa tk).cells) ∧ Hid (k ≤ l.length ∧ Rf w' rb l k bad' ∧ RdK rb w w' ∧ w'.ownsRow w.heap.size 2 1 pa.v j.pa.length (intsV j.pa) ∧ w'.ownsRow w.heap.size 23 4 tk.v j.tk.length (flat j.tk) ∧ OneX jobD l at0 bad j k bad') := by
  have H62 : Hid (∀ W k bd id tn pr rt pa tk, RJ w W rb l k bd id tn pr rt pa tk → Calls Try.prog 62 #[.pointer (some ⟨rb, 0, none⟩)] W fun e w' => ∃ (m k' : Nat) (bd' : Bool), e = .returned (.int .i64 m) ∧ Hid (RJ w w' rb l k' bd' id tn pr rt pa tk ∧ OneX (numD 7) l k bd m k' bd' ∧ m < 562949953421312 ∧ RdK rb W w')) := fun W k bd id tn pr rt pa tk hv => (rnumber_any W rb k l bd hv.rd hv.le).mono (by
    rintro e w' ⟨m, k', bd', rfl, h2⟩
    obtain ⟨q1, q2, q3, q4, q5, q6⟩ := h2.out
    exact ⟨m, k', bd', rfl, hv.read q4 q3 q5, OneX.num q6, q1, q5⟩)
  have H61 : Hid (∀ W k bd id tn pr rt pa tk, RJ w W rb l k bd id tn pr rt pa tk → Calls Try.prog 61 #[.pointer (some ⟨rb, 0, none⟩)] W fun e w' => ∃ (s : List UInt8) (k' : Nat) (bd' : Bool), e = .returned (.string ⟨⟨s⟩⟩) ∧ Hid (RJ w w' rb l k' bd' id tn pr rt pa tk ∧ OneX txtD l k bd s k' bd')) := fun W k bd id tn pr rt pa tk hv => (rtext_any W rb k l bd hv.rd hv.le).mono (by
    rintro e w' ⟨m, k', bd', rfl, h2⟩
    obtain ⟨q2, q3, q4, q5, q6⟩ := h2.out
    exact ⟨m, k', bd', rfl, hv.read q4 q3 q5, q6⟩)
  have H63 : Hid (∀ W k bd id tn pr rt pa tk, RJ w W rb l k bd id tn pr rt pa tk → Calls Try.prog 63 #[.pointer (some ⟨rb, 0, none⟩)] W fun e w' => ∃ (v : V4) (k' : Nat) (bd' : Bool), e = .returned (.agg #[.int .i64 v.a, .int .i64 v.b, .int .i64 v.c, .int .i64 v.d]) ∧ Hid (RJ w w' rb l k' bd' id tn pr rt pa tk ∧ OneX vecD l k bd v k' bd' ∧ RdK rb W w')) := fun W k bd id tn pr rt pa tk hv => (rvector_any W rb k l bd hv.rd hv.le).mono (by
    rintro e w' ⟨m, k', bd', rfl, h2⟩
    obtain ⟨q2, q3, q4, q5, q6⟩ := h2.out
    exact ⟨m, k', bd', rfl, hv.read q4 q3 q5, OneX.vec q6, q5⟩)
  have HS : Hid (RJ w _ rb l at0 bad 0 ⟨#[]⟩ 0 0 .nil .nil) := RJ.start h ha
  clear h ha
  go_enter Try.func64, Try.ntmps64
  go_upto_region 3 with (go_at_call 62; refine (H62.out _ _ _ _ _ _ _ _ _ HS.out).mono ?_; rintro e w1 ⟨n1, a1, d1, rfl, k1⟩; obtain ⟨c0, c1, c2, c3, c4, c5, ff⟩ := k1.out.1.ats; have f0 := ff 0)
  have K1 : Hid (RJ w _ rb l a1 d1 n1 ⟨#[]⟩ 0 0 .nil .nil) := k1.out.1.set (i := 0) (.int .i64 (n1 : Nat)) (by rfl)
  clear c0 c1 c2 c3 c4 c5 ff f0
  go_upto_region 4 with (go_at_call 61; refine (H61.out _ _ _ _ _ _ _ _ _ K1.out).mono ?_; rintro e w2 ⟨s2, a2, d2, rfl, k2⟩; obtain ⟨c0, c1, c2, c3, c4, c5, ff⟩ := k2.out.1.ats; have f0 := ff 1)
  have K2 : Hid (RJ w _ rb l a2 d2 n1 ⟨⟨s2⟩⟩ 0 0 .nil .nil) := k2.out.1.set (i := 1) (.string ⟨⟨s2⟩⟩) (by rfl)
  clear c0 c1 c2 c3 c4 c5 ff f0
  go_upto_region 5 with (go_at_call 62; refine (H62.out _ _ _ _ _ _ _ _ _ K2.out).mono ?_; rintro e w3 ⟨n3, a3, d3, rfl, k3⟩; obtain ⟨c0, c1, c2, c3, c4, c5, ff⟩ := k3.out.1.ats; have f0 := ff 2)
  have K3 : Hid (RJ w _ rb l a3 d3 n1 ⟨⟨s2⟩⟩ n3 0 .nil .nil) := k3.out.1.set (i := 2) (.int .i64 (n3 : Nat)) (by rfl)
  clear c0 c1 c2 c3 c4 c5 ff f0
  go_upto_region 6 with (go_at_call 62; refine (H62.out _ _ _ _ _ _ _ _ _ K3.out).mono ?_; rintro e w4 ⟨n4, a4, d4, rfl, k4⟩; obtain ⟨c0, c1, c2, c3, c4, c5, ff⟩ := k4.out.1.ats; have f0 := ff 3)
  have K4 : Hid (RJ w _ rb l a4 d4 n1 ⟨⟨s2⟩⟩ n3 n4 .nil .nil) := k4.out.1.set (i := 3) (.int .i64 (n4 : Nat)) (by rfl)
  clear c0 c1 c2 c3 c4 c5 ff f0
  go_upto_region 7 with (go_at_call 62; refine (H62.out _ _ _ _ _ _ _ _ _ K4.out).mono ?_; rintro e w5 ⟨n5, a5, d5, rfl, k5⟩)
  have hl5 : n5 < 562949953421312 := k5.out.2.2.1
  go_wp2_with fail
  go_loopw [5] (fun x wr => ∃ (i : Nat), x = .int .i64 i ∧ i ≤ 10 ∧ i ≤ n5 ∧ Hid (∃ (pa : SL) (xs : List Nat) (k : Nat) (bd : Bool), RJ w wr rb l k bd n1 ⟨⟨s2⟩⟩ n3 n4 pa .nil ∧ xs.length = i ∧ wr.ownsRow (w.heap.size + 2) 2 1 pa.v i (intsV (xs.map fun n : Nat => (n : Int))) ∧ OneX (repD (numD 7) i) l a5 d5 xs k bd )) (fun x _ => 10 - (intOf x).toNat)
  case atStart =>
    refine ⟨0, rfl, by omega, by omega, SL.nil, [], a5, d5, k5.out.1, rfl, ?_, OneX.start⟩
    exact World.ownsRow_nil _ _ _ _
  case round =>
    obtain ⟨i, rfl, hi, hin, HI⟩ := hrel
    obtain ⟨pa, xs, k, bd, hJ, hlen, hown, hone⟩ := HI.out
    have HJ : Hid (RJ w wr rb l k bd n1 ⟨⟨s2⟩⟩ n3 n4 pa .nil) := hJ
    have HO : Hid (xs.length = i ∧ wr.ownsRow (w.heap.size + 2) 2 1 pa.v i (intsV (xs.map fun n : Nat => (n : Int))) ∧ OneX (repD (numD 7) i) l a5 d5 xs k bd ) := ⟨hlen, hown, hone⟩
    have hb1 := hJ.b1
    obtain ⟨p, c, hb, hB⟩ := hJ.rd
    obtain ⟨⟨r0, r1, r2⟩, g0, g1, g2⟩ := three_cells hb
    obtain ⟨c0, c1, c2, c3, c4, c5, ff⟩ := hJ.ats
    have f4 := ff 4
    clear hJ hlen hown hone hb hB c0 c1 c2 c3 c5 ff HI r0 r1 g0 g1 g2 hb1
    by_cases hD : i < n5 ∧ i < 10 ∧ bd = false
    · obtain ⟨h1, h2, rfl⟩ := hD
      have l1 : (i : Int) < (n5 : Int) := by omega
      have l2 : (i : Int) < 10 := by omega
      have m1 : decide ((i : Int) < (n5 : Int)) = true := decide_eq_true l1
      have m2 : decide ((i : Int) < 10) = true := decide_eq_true l2
      obtain ⟨qa, qn, qc⟩ := pa
      simp only at c4
      go_wp2_with fail
      have H6 : Hid (∀ q, Calls Try.prog 62 #[.pointer (some ⟨rb, 0, none⟩)] (wr.drewN q) fun e w' => ∃ (m k' : Nat) (bd' : Bool), e = .returned (.int .i64 m) ∧ Hid (RJ w w' rb l k' bd' n1 ⟨⟨s2⟩⟩ n3 n4 ⟨qa, qn, qc⟩ .nil ∧ OneX (numD 7) l k false m k' bd' ∧ m < 562949953421312 ∧ RdK rb (wr.drewN q) w')) := fun q => H62.out (wr.drewN q) k false _ _ _ _ ⟨qa, qn, qc⟩ _ (HJ.out.drew q)
      obtain ⟨i2, hi2, hz0, hz1, hz2⟩ := info_parts info2r
      have HI2 : Hid (Try.prog.info? 2 = some i2 ∧ i2.zero = some (.int .i64 0) ∧ i2.size = 1 ∧ i2.bytes = 8) := ⟨hi2, hz0, hz1, hz2⟩
      have hrl : rb < w.heap.size := HJ.out.lt
      obtain ⟨xv, hxv⟩ : ∃ y, intsV (xs.map fun n : Nat => (n : Int)) = y := ⟨_, rfl⟩
      have HOW : Hid (∀ (q : Nat) w6 (m : Nat), RdK rb (wr.drewN q) w6 → (w6.alloc (.cells #[.int .i64 m] 2)).ownsRow (w.heap.size + 2) 2 1 (.slice qa qn qc) i xv) := fun q w6 m hk => by
        rw [← hxv]
        have o1 : w6.ownsRow (w.heap.size + 2) 2 1 (.slice qa qn qc) i _ := own_read HO.out.2.1 (by omega) ⟨hk.os, hk.tape, hk.output, hk.size, hk.block⟩
        exact own_below o1 ((Below.refl _ w6).alloc (Nat.le_refl _) _)
      have HX : Hid (intsV (xs.map fun n : Nat => (n : Int)) = xv) := hxv
      clear hxv hi2 hz0 hz1 hz2
      go_region_with (first
        | (go_at_call 62; refine (H6.out _).mono ?_; rintro e w6 ⟨m6, k6, bd6, rfl, h6⟩; have hjl : w.heap.size + 1 < w6.heap.size := (Array.getElem?_eq_some_iff.1 h6.out.1.b1).1; have z6 := h6.out.1.ats.2.2.2.2.1; have f6 := h6.out.1.ats.2.2.2.2.2.2 4; have O6 : Hid ((w6.alloc (.cells #[.int .i64 (m6 : Nat)] 2)).ownsRow (w.heap.size + 2) 2 1 (.slice qa qn qc) i xv) := HOW.out _ _ _ h6.out.2.2.2; have N6 : Hid (∀ j u, [Value.int .i64 (m6 : Nat)][j]? = some u → (w6.alloc (.cells #[.int .i64 (m6 : Nat)] 2)).cell? ((⟨w6.heap.size, 0, none⟩ : Addr).add j) = some u) := World.news_of_block (cs := #[.int .i64 (m6 : Nat)]) (t := 2) (fr := (0, 0)) new0; have S6 : Hid ((w6.alloc (.cells #[.int .i64 (m6 : Nat)] 2)).heap.size = w6.heap.size + 1) := (by refine (?_ : _ = _); simp); have Z6 : Hid (w.heap.size + 2 ≤ (w6.alloc (.cells #[.int .i64 (m6 : Nat)] 2)).heap.size) := (by have h9 := (Array.getElem?_eq_some_iff.1 h6.out.1.b1).1; refine (?_ : w.heap.size + 2 ≤ _); simp; omega); obtain ⟨g, cap, w4, hr, hown, hgrow, hat, hlt⟩ := run_append_lies (P := Try.prog) (w6.alloc (.cells #[.int .i64 (m6 : Nat)] 2)) 26 26 (w.heap.size + 2) 2 i2 _ 1 8 Try.underlying26 HI2.out.1 HI2.out.2.1 HI2.out.2.2.1 HI2.out.2.2.2 rfl (by decide) (.slice qa qn qc) i xv O6.out ⟨w6.heap.size, 0, none⟩ 1 1 [.int .i64 (m6 : Nat)] rfl N6.out (by intro u hu; rw [List.mem_singleton.1 hu]; rfl) (by decide) (by unfold maxLen; omega) (by omega) Z6.out _ S6.out; have B4 : Hid (Below (w.heap.size + 2) (w6.alloc (.cells #[.int .i64 (m6 : Nat)] 2)) w4) := below_grown hgrow Z6.out (fun g e => (World.ownsRow.lt O6.out g e).1); have J4 : Hid (RJ w w4 rb l k6 bd6 n1 ⟨⟨s2⟩⟩ n3 n4 ⟨qa, qn, qc⟩ .nil ∧ w4.ownsRow (w.heap.size + 2) 2 1 (.slice (some ⟨g, 0, none⟩) (i + 1) cap) (i + 1) (xv ++ [.int .i64 (m6 : Nat)])) := ⟨(h6.out.1.grow ((Below.refl _ w6).alloc (by have h9 := (Array.getElem?_eq_some_iff.1 h6.out.1.b1).1; omega) _)).grow B4.out, hown⟩; have z4 := J4.out.1.ats.2.2.2.2.1; have f44 := J4.out.1.ats.2.2.2.2.2.2 4; clear hown hgrow hat hlt)
        | ((show Oper.upon _ { dst := some 42, op := _, type := _, pos := _, after := _, guard := _ } _ _ _ _; refine upon_eq (Y := ((Builtin.append_ #[26, 26] 26 #[.slice qa qn qc, .slice (some ⟨w6.heap.size, 0, none⟩) 1 1]).run Try.prog (w6.alloc (.cells #[.int .i64 (m6 : Nat)] 2))).andThen fun a w' => .ok (.value a) w') (by clear hr; go_simp) ?_; refine upon_val hr ?_)))
      all_goals
        go_wp2_with fail
        refine ⟨⟨i + 1, by simp, by omega, by omega, ⟨some ⟨g, 0, none⟩, i + 1, cap⟩, xs ++ [m6], k6, bd6, J4.out.1.set (i := 4) _ (by rfl), by rw [List.length_append, HO.out.1]; rfl, ?_, OneX.snoc HO.out.2.2 h6.out.2.1⟩, by simp only [intOf]; omega⟩
        have o4 := own_cell (i := 4) (u := .slice (some ⟨g, 0, none⟩) (i + 1) cap) J4.out.2 (Nat.lt_succ_self _)
        rw [← HX.out] at o4
        rw [List.map_append]
        unfold intsV at o4 ⊢
        rw [List.map_append]
        exact o4
    · have hE : Hid (OneX (repD (numD 7) (min n5 10)) l a5 d5 xs k bd) := HO.out.2.2.enough (by omega) (by
        by_cases hb : bd = true
        · exact .inr hb
        · have hb' : bd = false := by simpa using hb
          left
          have h3 : ¬ (i < n5 ∧ i < 10) := fun q => hD ⟨q.1, q.2, hb'⟩
          omega)
      have hX : (((i : Int) < (n5 : Int)) = False ∧ decide ((i : Int) < (n5 : Int)) = false) ∨ ((((i : Int) < (n5 : Int)) = True ∧ decide ((i : Int) < (n5 : Int)) = true) ∧ (((i : Int) < 10) = False ∧ decide ((i : Int) < 10) = false)) ∨ ((((i : Int) < (n5 : Int)) = True ∧ decide ((i : Int) < (n5 : Int)) = true) ∧ (((i : Int) < 10) = True ∧ decide ((i : Int) < 10) = true) ∧ bd = true) := by
        by_cases x1 : i < n5
        · by_cases x2 : i < 10
          · have hb : bd = true := by
              by_cases hb : bd = true
              · exact hb
              · exact absurd ⟨x1, x2, by simpa using hb⟩ hD
            exact .inr (.inr ⟨⟨by simp; omega, decide_eq_true (by omega)⟩, ⟨by simp; omega, decide_eq_true (by omega)⟩, hb⟩)
          · exact .inr (.inl ⟨⟨by simp; omega, decide_eq_true (by omega)⟩, ⟨by simp; omega, decide_eq_false (by omega)⟩⟩)
        · exact .inl ⟨by simp; omega, decide_eq_false (by omega)⟩
      clear hD c4 f4
      rcases hX with ⟨x1, x2⟩ | ⟨⟨x1, x2⟩, x3, x4⟩ | ⟨⟨x1, x2⟩, ⟨x3, x4⟩, rfl⟩
      all_goals
        go_upto_region 12 with (go_at_call 62; refine (H62.out _ _ _ _ _ _ _ _ _ HJ.out).mono ?_; rintro e w7 ⟨n7, a7, d7, rfl, k7⟩)
        have hrl : rb < w.heap.size := HJ.out.lt
        have OP : Hid (w7.ownsRow (w.heap.size + 2) 2 1 pa.v i (intsV (xs.map fun n : Nat => (n : Int)))) := own_read HO.out.2.1 (by omega) k7.out.2.2.2
        have hl7 : n7 < 562949953421312 := k7.out.2.2.1
        have KK : Hid (RJ w w7 rb l a7 d7 n1 ⟨⟨s2⟩⟩ n3 n4 pa .nil) := k7.out.1
        have hw7 : w.heap.size + 2 ≤ w7.heap.size := (Array.getElem?_eq_some_iff.1 KK.out.b1).1
        go_wp2_with fail
        go_loopw [6] (fun x wx => ∃ (t : Nat), x = .int .i64 t ∧ t ≤ 10 ∧ t ≤ n7 ∧ Hid (∃ (tk : SL) (vs : List V4) (k : Nat) (bd : Bool), RJ w wx rb l k bd n1 ⟨⟨s2⟩⟩ n3 n4 pa tk ∧ vs.length = t ∧ wx.ownsRow w7.heap.size 23 4 tk.v t (flat vs) ∧ wx.ownsRow (w.heap.size + 2) 2 1 pa.v i (intsV (xs.map fun n : Nat => (n : Int))) ∧ OneX (repD vecD t) l a7 d7 vs k bd ∧ w7.heap.size ≤ wx.heap.size)) (fun x _ => 10 - (intOf x).toNat)
        case atStart =>
          refine ⟨0, rfl, by omega, by omega, SL.nil, [], a7, d7, KK.out, rfl, ?_, OP.out, OneX.start, Nat.le_refl _⟩
          exact World.ownsRow_nil _ _ _ _
        case round =>
          clear HJ r2
          obtain ⟨t, rfl, ht, htn, HI⟩ := hrel
          obtain ⟨tk, vs, k, bd, hJ, hlen, hown, hpa, hone, hsz⟩ := HI.out
          have HJ : Hid (RJ w wr rb l k bd n1 ⟨⟨s2⟩⟩ n3 n4 pa tk) := hJ
          have HT : Hid (vs.length = t ∧ wr.ownsRow w7.heap.size 23 4 tk.v t (flat vs) ∧ wr.ownsRow (w.heap.size + 2) 2 1 pa.v i (intsV (xs.map fun n : Nat => (n : Int))) ∧ OneX (repD vecD t) l a7 d7 vs k bd ∧ w7.heap.size ≤ wr.heap.size) := ⟨hlen, hown, hpa, hone, hsz⟩
          obtain ⟨p, c, hb, hB⟩ := hJ.rd
          obtain ⟨⟨r0, r1, r2⟩, g0, g1, g2⟩ := three_cells hb
          obtain ⟨c0, c1, c2, c3, c4, c5, ff⟩ := hJ.ats
          have f5 := ff 5
          clear hJ hlen hown hpa hone hsz hb hB c0 c1 c2 c3 c4 ff HI r0 r1 g0 g1 g2
          by_cases hD : t < n7 ∧ t < 10 ∧ bd = false
          · obtain ⟨h1, h2, rfl⟩ := hD
            have y1 : (t : Int) < (n7 : Int) := by omega
            have y2 : (t : Int) < 10 := by omega
            have m1 : decide ((t : Int) < (n7 : Int)) = true := decide_eq_true y1
            have m2 : decide ((t : Int) < 10) = true := decide_eq_true y2
            obtain ⟨qa, qn, qc⟩ := tk
            simp only at c5
            go_wp2_with fail
            have H6 : Hid (∀ q, Calls Try.prog 63 #[.pointer (some ⟨rb, 0, none⟩)] (wr.drewN q) fun e w' => ∃ (v : V4) (k' : Nat) (bd' : Bool), e = .returned (.agg #[.int .i64 v.a, .int .i64 v.b, .int .i64 v.c, .int .i64 v.d]) ∧ Hid (RJ w w' rb l k' bd' n1 ⟨⟨s2⟩⟩ n3 n4 pa ⟨qa, qn, qc⟩ ∧ OneX vecD l k false v k' bd' ∧ RdK rb (wr.drewN q) w')) := fun q => H63.out (wr.drewN q) k false _ _ _ _ pa ⟨qa, qn, qc⟩ (HJ.out.drew q)
            obtain ⟨i2, hi2, hz0, hz1, hz2⟩ := info_parts info23
            have HI2 : Hid (Try.prog.info? 23 = some i2 ∧ i2.zero = some (.agg #[.int .i64 0, .int .i64 0, .int .i64 0, .int .i64 0]) ∧ i2.size = 4 ∧ i2.bytes = 32) := ⟨hi2, hz0, hz1, hz2⟩
            obtain ⟨xv, hxv⟩ : ∃ y, flat vs = y := ⟨_, rfl⟩
            have HOW : Hid (∀ (q : Nat) w6 (o : Obj), RdK rb (wr.drewN q) w6 → (w6.alloc o).ownsRow w7.heap.size 23 4 (.slice qa qn qc) t xv ∧ (w6.alloc o).ownsRow (w.heap.size + 2) 2 1 pa.v i (intsV (xs.map fun n : Nat => (n : Int)))) := fun q w6 o hk => by
              rw [← hxv]
              have o1 : w6.ownsRow w7.heap.size 23 4 (.slice qa qn qc) t _ := own_read HT.out.2.1 (by omega) ⟨hk.os, hk.tape, hk.output, hk.size, hk.block⟩
              have o2 : w6.ownsRow (w.heap.size + 2) 2 1 pa.v i _ := own_read HT.out.2.2.1 (by omega) ⟨hk.os, hk.tape, hk.output, hk.size, hk.block⟩
              exact ⟨own_below o1 ((Below.refl _ w6).alloc (Nat.le_refl _) _), own_below o2 ((Below.refl _ w6).alloc (Nat.le_refl _) _)⟩
            have HX : Hid (flat vs = xv ∧ w7.heap.size ≤ wr.heap.size ∧ ∀ g, pa.v.ownBlock = some g → g < w7.heap.size) := ⟨hxv, HT.out.2.2.2.2, fun g q => (World.ownsRow.lt OP.out g q).2⟩
            clear hxv hi2 hz0 hz1 hz2
            go_region_with (first
              | (go_at_call 63; refine (H6.out _).mono ?_; rintro e w6 ⟨m6, k6, bd6, rfl, h6⟩; have hjl : w.heap.size + 1 < w6.heap.size := (Array.getElem?_eq_some_iff.1 h6.out.1.b1).1; have z6 := h6.out.1.ats.2.2.2.2.2.1; have f6 := h6.out.1.ats.2.2.2.2.2.2 5; have O6 : Hid ((w6.alloc (.cells #[.int .i64 m6.a, .int .i64 m6.b, .int .i64 m6.c, .int .i64 m6.d] 23)).ownsRow w7.heap.size 23 4 (.slice qa qn qc) t xv ∧ (w6.alloc (.cells #[.int .i64 m6.a, .int .i64 m6.b, .int .i64 m6.c, .int .i64 m6.d] 23)).ownsRow (w.heap.size + 2) 2 1 pa.v i (intsV (xs.map fun n : Nat => (n : Int)))) := HOW.out _ _ _ h6.out.2.2; have N6 : Hid (∀ j u, [Value.int .i64 m6.a, .int .i64 m6.b, .int .i64 m6.c, .int .i64 m6.d][j]? = some u → (w6.alloc (.cells #[.int .i64 m6.a, .int .i64 m6.b, .int .i64 m6.c, .int .i64 m6.d] 23)).cell? ((⟨w6.heap.size, 0, none⟩ : Addr).add j) = some u) := World.news_of_block (cs := #[.int .i64 m6.a, .int .i64 m6.b, .int .i64 m6.c, .int .i64 m6.d]) (t := 23) (fr := (0, 0)) new0; have S6 : Hid ((w6.alloc (.cells #[.int .i64 m6.a, .int .i64 m6.b, .int .i64 m6.c, .int .i64 m6.d] 23)).heap.size = w6.heap.size + 1) := (by refine (?_ : _ = _); simp); have Z6 : Hid (w7.heap.size ≤ (w6.alloc (.cells #[.int .i64 m6.a, .int .i64 m6.b, .int .i64 m6.c, .int .i64 m6.d] 23)).heap.size) := Nat.le_trans HX.out.2.1 (Nat.le_trans h6.out.2.2.size (by simp)); obtain ⟨g, cap, w4, hr, hown, hgrow, hat, hlt⟩ := run_append_lies (P := Try.prog) (w6.alloc (.cells #[.int .i64 m6.a, .int .i64 m6.b, .int .i64 m6.c, .int .i64 m6.d] 23)) 27 27 w7.heap.size 23 i2 _ 4 32 Try.underlying27 HI2.out.1 HI2.out.2.1 HI2.out.2.2.1 HI2.out.2.2.2 rfl (by decide) (.slice qa qn qc) t xv O6.out.1 ⟨w6.heap.size, 0, none⟩ 1 1 [.int .i64 m6.a, .int .i64 m6.b, .int .i64 m6.c, .int .i64 m6.d] rfl N6.out (by intro u hu; simp at hu; rcases hu with rfl | rfl | rfl | rfl <;> rfl) (by decide) (by unfold maxLen; omega) (by omega) Z6.out _ S6.out; have B4 : Hid (Below w7.heap.size (w6.alloc (.cells #[.int .i64 m6.a, .int .i64 m6.b, .int .i64 m6.c, .int .i64 m6.d] 23)) w4) := below_grown hgrow Z6.out (fun g e => (World.ownsRow.lt O6.out.1 g e).1); have J4 : Hid (RJ w w4 rb l k6 bd6 n1 ⟨⟨s2⟩⟩ n3 n4 pa ⟨qa, qn, qc⟩ ∧ w4.ownsRow w7.heap.size 23 4 (.slice (some ⟨g, 0, none⟩) (t + 1) cap) (t + 1) (xv ++ [.int .i64 m6.a, .int .i64 m6.b, .int .i64 m6.c, .int .i64 m6.d]) ∧ w4.ownsRow (w.heap.size + 2) 2 1 pa.v i (intsV (xs.map fun n : Nat => (n : Int)))) := ⟨(h6.out.1.grow ((Below.refl _ w6).alloc (by omega) _)).grow (B4.out.mono hw7), hown, own_under O6.out.2 HX.out.2.2 B4.out⟩; have z4 := J4.out.1.ats.2.2.2.2.2.1; have f44 := J4.out.1.ats.2.2.2.2.2.2 5; clear hown hgrow hat hlt)
              | (show Oper.upon _ { dst := some 67, op := _, type := _, pos := _, after := _, guard := _ } _ _ _ _; refine upon_eq (Y := ((Builtin.append_ #[27, 27] 27 #[.slice qa qn qc, .slice (some ⟨w6.heap.size, 0, none⟩) 1 1]).run Try.prog (w6.alloc (.cells #[.int .i64 m6.a, .int .i64 m6.b, .int .i64 m6.c, .int .i64 m6.d] 23))).andThen fun a w' => .ok (.value a) w') (by clear hr; go_simp) ?_; refine upon_val hr ?_))
            all_goals
              go_wp2_with fail
              refine ⟨⟨t + 1, by simp, by omega, by omega, ⟨some ⟨g, 0, none⟩, t + 1, cap⟩, vs ++ [m6], k6, bd6, J4.out.1.set (i := 5) _ (by rfl), by rw [List.length_append, HT.out.1]; rfl, ?_, own_cell J4.out.2.2 (Nat.lt_succ_self _), OneX.snoc HT.out.2.2.2.1 h6.out.2.1, ?_⟩, by simp only [intOf]; omega⟩
              rotate_left; exact Nat.le_trans Z6.out (by have h9 := B4.out.size; simpa [World.setCell] using h9)
              have o4 := own_cell (i := 5) (u := .slice (some ⟨g, 0, none⟩) (t + 1) cap) J4.out.2.1 (by omega : w.heap.size + 1 < w7.heap.size)
              rw [flat_app, HX.out.1]
              exact o4
          · have hE2 : Hid (OneX (repD vecD (min n7 10)) l a7 d7 vs k bd) := HT.out.2.2.2.1.enough (by omega) (by
              by_cases hb : bd = true
              · exact .inr hb
              · have hb' : bd = false := by simpa using hb
                left
                have h3 : ¬ (t < n7 ∧ t < 10) := fun q => hD ⟨q.1, q.2, hb'⟩
                omega)
            have hX : (((t : Int) < (n7 : Int)) = False ∧ decide ((t : Int) < (n7 : Int)) = false) ∨ ((((t : Int) < (n7 : Int)) = True ∧ decide ((t : Int) < (n7 : Int)) = true) ∧ (((t : Int) < 10) = False ∧ decide ((t : Int) < 10) = false)) ∨ ((((t : Int) < (n7 : Int)) = True ∧ decide ((t : Int) < (n7 : Int)) = true) ∧ (((t : Int) < 10) = True ∧ decide ((t : Int) < 10) = true) ∧ bd = true) := by
              by_cases x1 : t < n7
              · by_cases x2 : t < 10
                · have hb : bd = true := by
                    by_cases hb : bd = true
                    · exact hb
                    · exact absurd ⟨x1, x2, by simpa using hb⟩ hD
                  exact .inr (.inr ⟨⟨by simp; omega, decide_eq_true (by omega)⟩, ⟨by simp; omega, decide_eq_true (by omega)⟩, hb⟩)
                · exact .inr (.inl ⟨⟨by simp; omega, decide_eq_true (by omega)⟩, ⟨by simp; omega, decide_eq_false (by omega)⟩⟩)
              · exact .inl ⟨by simp; omega, decide_eq_false (by omega)⟩
            have S30 : (Try.prog.info? 30).map (·.size) = some (#[.int .i64 (n1 : Nat), .string ⟨⟨s2⟩⟩, .int .i64 (n3 : Nat), .int .i64 (n4 : Nat), .slice pa.a pa.n pa.c, .slice tk.a tk.n tk.c, .int .i64 0, .int .i64 0, .slice none 0 0, .int .i64 0, .slice none 0 0] : Array Value).size := size30
            have O30 : (#[.int .i64 (n1 : Nat), .string ⟨⟨s2⟩⟩, .int .i64 (n3 : Nat), .int .i64 (n4 : Nat), .slice pa.a pa.n pa.c, .slice tk.a tk.n tk.c, .int .i64 0, .int .i64 0, .slice none 0 0, .int .i64 0, .slice none 0 0] : Array Value).all (·.oneCell') = true := by simp [Value.oneCell']
            have Z30 : JB.zero.cells.size = (#[.int .i64 (n1 : Nat), .string ⟨⟨s2⟩⟩, .int .i64 (n3 : Nat), .int .i64 (n4 : Nat), .slice pa.a pa.n pa.c, .slice tk.a tk.n tk.c, .int .i64 0, .int .i64 0, .slice none 0 0, .int .i64 0, .slice none 0 0] : Array Value).size := by rfl
            have HF : Hid (k ≤ l.length ∧ Rf (wr.setRow w.heap.size #[.int .i64 (n1 : Nat), .string ⟨⟨s2⟩⟩, .int .i64 (n3 : Nat), .int .i64 (n4 : Nat), .slice pa.a pa.n pa.c, .slice tk.a tk.n tk.c, .int .i64 0, .int .i64 0, .slice none 0 0, .int .i64 0, .slice none 0 0]) rb l k bd ∧ RdK rb w (wr.setRow w.heap.size #[.int .i64 (n1 : Nat), .string ⟨⟨s2⟩⟩, .int .i64 (n3 : Nat), .int .i64 (n4 : Nat), .slice pa.a pa.n pa.c, .slice tk.a tk.n tk.c, .int .i64 0, .int .i64 0, .slice none 0 0, .int .i64 0, .slice none 0 0]) ∧ (wr.setRow w.heap.size #[.int .i64 (n1 : Nat), .string ⟨⟨s2⟩⟩, .int .i64 (n3 : Nat), .int .i64 (n4 : Nat), .slice pa.a pa.n pa.c, .slice tk.a tk.n tk.c, .int .i64 0, .int .i64 0, .slice none 0 0, .int .i64 0, .slice none 0 0]).ownsRow w.heap.size 2 1 pa.v i (intsV (xs.map fun n : Nat => (n : Int))) ∧ (wr.setRow w.heap.size #[.int .i64 (n1 : Nat), .string ⟨⟨s2⟩⟩, .int .i64 (n3 : Nat), .int .i64 (n4 : Nat), .slice pa.a pa.n pa.c, .slice tk.a tk.n tk.c, .int .i64 0, .int .i64 0, .slice none 0 0, .int .i64 0, .slice none 0 0]).ownsRow w.heap.size 23 4 tk.v t (flat vs) ∧ OneX jobD l at0 bad ⟨n1, s2, n3, n4, xs.map (fun n : Nat => (n : Int)), vs⟩ k bd) :=
              ⟨HJ.out.le, rf_put HJ.out.rd HJ.out.lt, rdk_put HJ.out.kp (Nat.le_refl _), Joins.ownsRow_le (own_put HT.out.2.2.1 (by omega)) (by omega), Joins.ownsRow_le (own_put HT.out.2.1 (by omega)) (by omega), job_of k1.out.2.1 k2.out.2 k3.out.2.1 k4.out.2.1 k5.out.2.1 hE.out k7.out.2.1 hE2.out⟩
            have HG : Hid ((wr.setRow w.heap.size #[.int .i64 (n1 : Nat), .string ⟨⟨s2⟩⟩, .int .i64 (n3 : Nat), .int .i64 (n4 : Nat), .slice pa.a pa.n pa.c, .slice tk.a tk.n tk.c, .int .i64 0, .int .i64 0, .slice none 0 0, .int .i64 0, .slice none 0 0]).heap[w.heap.size]? = some (.cells #[.int .i64 (n1 : Nat), .string ⟨⟨s2⟩⟩, .int .i64 (n3 : Nat), .int .i64 (n4 : Nat), .slice pa.a pa.n pa.c, .slice tk.a tk.n tk.c, .int .i64 0, .int .i64 0, .slice none 0 0, .int .i64 0, .slice none 0 0] 30 (0, 0))) := setRow_heap wr _ _ _ 30 (0, 0) HJ.out.b0
            clear hD c5 f5
            rcases hX with ⟨x1, x2⟩ | ⟨⟨x1, x2⟩, x3, x4⟩ | ⟨⟨x1, x2⟩, ⟨x3, x4⟩, rfl⟩
            all_goals
              go_wp2_with (first
                | refine wpList_load_row rfl 30 _ rfl (w.heap.size + 1) rfl 30 _ (0, 0) _ HJ.out.b1 Try.underlying30 rfl size30 ?_
                | refine wpList_store_row rfl 30 _ _ rfl w.heap.size #[.int .i64 (n1 : Nat), .string ⟨⟨s2⟩⟩, .int .i64 (n3 : Nat), .int .i64 (n4 : Nat), .slice pa.a pa.n pa.c, .slice tk.a tk.n tk.c, .int .i64 0, .int .i64 0, .slice none 0 0, .int .i64 0, .slice none 0 0] rfl rfl 30 JB.zero.cells HJ.out.b0 S30 Z30 O30 ?_)
              refine bodyPost_ret (back64 _ _ w.heap.size #[.int .i64 (n1 : Nat), .string ⟨⟨s2⟩⟩, .int .i64 (n3 : Nat), .int .i64 (n4 : Nat), .slice pa.a pa.n pa.c, .slice tk.a tk.n tk.c, .int .i64 0, .int .i64 0, .slice none 0 0, .int .i64 0, .slice none 0 0] rfl HG.out rfl) rfl ?_
              refine ⟨⟨n1, s2, n3, n4, xs.map (fun n : Nat => (n : Int)), vs⟩, pa, tk, k, _, rfl, HF.out.1, HF.out.2.1, HF.out.2.2.1, ?_, ?_, HF.out.2.2.2.2.2⟩
              · show World.ownsRow _ _ _ _ _ (xs.map fun n : Nat => (n : Int)).length _
                rw [List.length_map, HO.out.1]
                exact HF.out.2.2.2.1
              · show World.ownsRow _ _ _ _ _ vs.length _
                rw [HT.out.1]
                exact HF.out.2.2.2.2.1
end Go.Proofs.Ytnkkiepoljbhlaa
