/-
  Fit, walked. The laws' awake and few.
-/
import Derived.Test.YtjgibngnjlciaaaGreatPe
import Derived.Deep.RegionWith
namespace Go.Proofs.YtjgibngnjlciaaaGreat
open Go.RowKit Go.Maps Go.Sort

def FitP (w : World) (T : List V) (S : List Sl) (e : Ending) (w' : World) : Prop :=
  ∃ q m c, e = .returned (.tuple #[.slice q m c, .int .i64 ((fitR T S).1 : Nat)]) ∧ (fitR T S).2.length = m ∧ (q = none → c = 0) ∧ Hid (NA w' q (fitR T S).2 ∧ Below w.heap.size w w')
theorem LB.na {w : World} {g : Nat} {N : List (List UInt8)} (h : LB 9 sV w g N) : NA w (some ⟨g, 0, none⟩) N := fun i s hi => ⟨g, 0, rfl, fun j u hu => by
  match j, hu with
  | 0, hu =>
    have e : Value.string ⟨⟨s⟩⟩ = u := by simpa [sC] using hu
    have := h.cell hi
    rw [Nat.zero_add, Nat.mul_one, Nat.add_zero, ← e]
    exact this⟩
theorem chk_ok {T : List V} {S : List Sl} (h : chk T S = 0) : allOk T = true ∧ allS S = true ∧ Nod S ∧ 1 ≤ T.length ∧ T.length ≤ 6 := by
  unfold chk at h
  split at h
  · cases h
  · rename_i h1
    split at h
    · cases h
    · rename_i h2
      split at h
      · cases h
      · rename_i h3
        rw [Bool.not_eq_false, Bool.and_eq_true] at h1
        exact ⟨h1.1, h1.2, Decidable.of_not_not h2, by omega, by omega⟩
theorem tg_ok {T : List V} (h : allOk T = true) {t : Nat} (ht : t < T.length) : (tg T t).ok = true := List.all_eq_true.1 h _ (List.mem_of_getElem? (tg_lt ht))
theorem sub_some {v u : V} (hv : v.ok = true) (hu : u.ok = true) (h : ftV v u = true) : subR u v = (u.sub v, 0) := by
  unfold subR
  rw [hv, hu, sub_ok hv hu h]
  rfl
set_option maxHeartbeats 4000000 in
set_option maxRecDepth 100000 in
theorem fit_any (T : List V) (S : List Sl) (q r : Option Addr) (n c m d : Nat) (w : World) (hT : TA w q T) (hS : SA w r S) (hsh : Short S) (hr : r = none → d = 0) (hn : T.length = n) (hm : S.length = m) (n1 : n ≤ 1000000) (m1 : m ≤ 1000000) :
    Calls Tryz.prog 12 #[.slice q n c, .slice r m d] w (FitP w T S) := by
  have H21 : Hid (Calls Tryz.prog 22 #[.slice q n c, .slice r m d] w (ChkP w T S)) := check_any T S q r n c m d w hT hS hsh hn hm n1 m1
  have HA : Hid (TA w q T ∧ SA w r S ∧ Short S ∧ (r = none → d = 0) ∧ T.length = n ∧ S.length = m) := ⟨hT, hS, hsh, hr, hn, hm⟩
  clear hT hS hsh hr hn hm
  by_cases hc : chk T S = 0
  · obtain ⟨k1, k2, k3, k4, k5⟩ := chk_ok hc
    have HK : Hid (allOk T = true ∧ allS S = true ∧ chk T S = 0) := ⟨k1, k2, hc⟩
    have n6 : n ≤ 6 := by have := HA.out.2.2.2.2.1; omega
    have n0 : 1 ≤ n := by have := HA.out.2.2.2.2.1; omega
    clear k1 k2 k3 k4 k5 hc
    go_enter Tryz.func12, Tryz.ntmps12
    go_upto_region 2 with (go_at_call 22; refine H21.out.mono ?_; rintro e w1 ⟨mv, rfl, h1⟩)
    rw [HK.out.2.2]
    have B1 : Hid (Below w.heap.size w w1) := h1.out.2
    clear h1 H21
    have H22 : Hid (Calls Tryz.prog 23 #[.slice r m d] w1 fun e w' => ∃ p c', e = .returned (.slice p m c') ∧ Hid (SR w1.heap.size w' (.slice p m c') S ∧ Below w1.heap.size w1 w')) := clone_slots w1 r m d S (HA.out.2.1.below B1.out) HA.out.2.2.2.2.2 HA.out.2.2.2.1 m1
    go_upto_region 5 with (go_at_call 23; refine H22.out.mono ?_; rintro e w2 ⟨p, c2, rfl, h2⟩)
    have B2 : Hid (Below w.heap.size w w2 ∧ SR w.heap.size w2 (.slice p m c2) S) := ⟨below_from B1.out h2.out.2 B1.out.size, h2.out.1.1, by
      rcases h2.out.1.2 with q | ⟨g, cap, cur, e1, e2, e3⟩
      · exact .inl q
      · exact .inr ⟨g, cap, cur, e1, by have := B1.out.size; omega, e3⟩⟩
    clear H22 h2 B1
    have hmk := make26 n (by omega) w2
    go_upto_region 6 with fail
    clear hmk
    have L3 : Hid (Below w2.heap.size w2 (w2.alloc (.cells (Array.replicate n (.string ⟨#[]⟩)) 9)) ∧ LB 9 sV (w2.alloc (.cells (Array.replicate n (.string ⟨#[]⟩)) 9)) w2.heap.size (List.replicate n [])) := ⟨(Below.refl _ w2).alloc (Nat.le_refl _) _, by unfold LB; rw [List.map_replicate]; exact new0⟩
    have H23 : Hid (Calls Tryz.prog 24 #[.slice q n c] (w2.alloc (.cells (Array.replicate n (.string ⟨#[]⟩)) 9)) fun e w' => ∃ g, e = .returned (.slice (some ⟨g, 0, none⟩) n n) ∧ Hid (LB 3 nI w' g (ordT T) ∧ (w2.alloc (.cells (Array.replicate n (.string ⟨#[]⟩)) 9)).heap.size ≤ g ∧ Below (w2.alloc (.cells (Array.replicate n (.string ⟨#[]⟩)) 9)).heap.size (w2.alloc (.cells (Array.replicate n (.string ⟨#[]⟩)) 9)) w')) := turns_any _ q n c T ((HA.out.1.below B2.out.1).below L3.out.1) HA.out.2.2.2.2.1 (by omega) n0
    obtain ⟨gN, hgN⟩ : ∃ gN, gN = w2.heap.size := ⟨_, rfl⟩
    have HG : Hid (w.heap.size ≤ gN) := by have := B2.out.1.size; show _ ≤ _; omega
    have L4 : Hid (LB 9 sV (w2.alloc (.cells (Array.replicate n (.string ⟨#[]⟩)) 9)) gN (List.replicate n []) ∧ Below w.heap.size w (w2.alloc (.cells (Array.replicate n (.string ⟨#[]⟩)) 9)) ∧ SR w.heap.size (w2.alloc (.cells (Array.replicate n (.string ⟨#[]⟩)) 9)) (.slice p m c2) S) := ⟨by rw [hgN]; exact L3.out.2, below_from B2.out.1 L3.out.1 B2.out.1.size, B2.out.2.below L3.out.1⟩
    rw [← hgN]
    clear hgN L3 B2
    generalize w2.alloc (.cells (Array.replicate n (.string ⟨#[]⟩)) 9) = w3 at *
    go_upto_region 7 with (go_at_call 24; refine H23.out.mono ?_; rintro e w4 ⟨gT, rfl, h4⟩)
    have F0 : Hid (Fl w w4 T S p m c2 gN gT 0 (fit0 T S)) := ⟨rfl, L4.out.2.2.below h4.out.2.2, by unfold fit0; rw [HA.out.2.2.2.2.1]; exact L4.out.1.below h4.out.2.2, h4.out.1, below_from L4.out.2.1 h4.out.2.2 L4.out.2.1.size, HG.out, HK.out.2.1, rfl, by unfold fit0; rw [List.length_replicate]⟩
    clear H23 h4 L4 HG
    go_wp2_with fail
    go_loopw [30] (fun x wr => ∃ k : Nat, x = .int .i64 k ∧ k ≤ n ∧ Hid (∃ st, Fl w wr T S p m c2 gN gT k st)) (fun x _ => n - (intOf x).toNat)
    case atStart => exact ⟨0, rfl, Nat.zero_le _, _, F0.out⟩
    case round =>
      clear F0
      obtain ⟨k, rfl, hk, HI⟩ := hrel
      by_cases h0 : k < n
      · have hlt' : (k : Int) < (n : Int) := by omega
        have hd : decide ((k : Int) < (n : Int)) = true := decide_eq_true hlt'
        obtain ⟨st, hF⟩ := HI.out
        have HF : Hid (Fl w wr T S p m c2 gN gT k st) := hF
        clear HI hF
        have hol : (ordT T).length = n := (ordT_ord T).length.trans HA.out.2.2.2.2.1
        obtain ⟨t, ht⟩ : ∃ t, (ordT T)[k]? = some t := ⟨_, List.getElem?_eq_getElem (by omega)⟩
        have htn : t < n := by have := (ordT_ord T).lt (List.mem_of_getElem? ht); have := HA.out.2.2.2.2.1; omega
        have htn' : (t : Int) < (n : Int) := by omega
        have ct : wr.cell? ⟨gT, k, none⟩ = some (.int .i64 (t : Int)) := HF.out.t.cell ht
        obtain ⟨ga, oa, rfl, x0, x1, x2, x3⟩ := TA.at (HA.out.1.below HF.out.b) (tg_lt (show t < T.length by have := HA.out.2.2.2.2.1; omega))
        have HT : Hid ((ordT T)[k]? = some t ∧ (tg T t).ok = true) := ⟨ht, tg_ok HK.out.1 (by have := HA.out.2.2.2.2.1; omega)⟩
        have H24 : Hid (Calls Tryz.prog 25 #[.agg #[.int .i64 (tg T t).a, .int .i64 (tg T t).b, .int .i64 (tg T t).c, .int .i64 (tg T t).d], .slice p m c2] wr fun e w' => e = .returned (hptr p (hold (tg T t) st.1)) ∧ Hid (Below wr.heap.size wr w')) := holder_any wr (tg T t) p m c2 w.heap.size st.1 HF.out.l m1
        clear hol ht
        cases hh : hold (tg T t) st.1 with
        | none =>
          have HR : Hid (fitR T S = (6, [])) := by
            show _ = _
            unfold fitR
            rw [if_pos HK.out.2.2, take_none HF.out.f HT.out.1 hh]
          rw [hh, show hptr p none = .pointer none by cases p <;> rfl] at H24
          clear hh
          generalize tg T t = u at *
          obtain ⟨ua, ub, uc, ud⟩ := u
          simp only [] at x0 x1 x2 x3 H24
          go_wp2_with (go_at_call 25; refine H24.out.mono ?_; rintro e w5 ⟨rfl, b5⟩)
          go_ret2
          unfold FitP
          rw [HR.out]
          exact ⟨none, 0, 0, rfl, rfl, fun _ => rfl, GA.none, below_from HF.out.b b5.out HF.out.b.size⟩
        | some i =>
          obtain ⟨s, hs, hf, -⟩ := hold_some hh
          obtain ⟨gl, rfl, -⟩ := HF.out.l.at slC_len hs
          have hsok : s.v.ok = true := List.all_eq_true.1 HF.out.o s (List.mem_of_getElem? hs)
          have hsm : s.nm.length ≤ 281474976710656 := short_nm HA.out.2.2.1 HF.out.m s (List.mem_of_getElem? hs)
          have hsub := sub_some HT.out.2 hsok hf
          have H25 : Hid (∀ w, Calls Tryz.prog 26 #[.agg #[.int .i64 s.v.a, .int .i64 s.v.b, .int .i64 s.v.c, .int .i64 s.v.d], .agg #[.int .i64 (tg T t).a, .int .i64 (tg T t).b, .int .i64 (tg T t).c, .int .i64 (tg T t).d]] w fun e w' => e = .returned (.tuple #[.agg #[.int .i64 (s.v.sub (tg T t)).a, .int .i64 (s.v.sub (tg T t)).b, .int .i64 (s.v.sub (tg T t)).c, .int .i64 (s.v.sub (tg T t)).d], .int .i64 0]) ∧ Hid (Below w.heap.size w w')) := fun w => by
            have := sub_any s.v.a s.v.b s.v.c s.v.d (tg T t).a (tg T t).b (tg T t).c (tg T t).d w
            rw [show subR ⟨s.v.a, s.v.b, s.v.c, s.v.d⟩ ⟨(tg T t).a, (tg T t).b, (tg T t).c, (tg T t).d⟩ = (s.v.sub (tg T t), 0) from hsub] at this
            exact this
          have H26 : Hid (∀ w, Calls Tryz.prog 27 #[.string ⟨⟨s.nm⟩⟩] w fun e w' => e = .returned (.string ⟨⟨s.nm⟩⟩) ∧ Hid (Below w.heap.size w w')) := fun w => clone_any s.nm w hsm
          obtain ⟨nt, hnt⟩ : ∃ nt, st.2[t]? = some nt := ⟨_, List.getElem?_eq_getElem (by have := HF.out.z; have := HA.out.2.2.2.2.1; omega)⟩
          have hcl := grow_at HF.out.l hs
          have KC : Hid (∀ W, Below wr.heap.size wr W → (W.cell? ⟨gl, i * 5 + 1, none⟩ = some (.int .i64 s.v.a) ∧ W.cell? ⟨gl, i * 5 + 1 + 1, none⟩ = some (.int .i64 s.v.b) ∧ W.cell? ⟨gl, i * 5 + 1 + 2, none⟩ = some (.int .i64 s.v.c) ∧ W.cell? ⟨gl, i * 5 + 1 + 3, none⟩ = some (.int .i64 s.v.d)) ∧ (W.cell? ⟨ga, oa + t * 4, none⟩ = some (.int .i64 (tg T t).a) ∧ W.cell? ⟨ga, oa + t * 4 + 1, none⟩ = some (.int .i64 (tg T t).b) ∧ W.cell? ⟨ga, oa + t * 4 + 2, none⟩ = some (.int .i64 (tg T t).c) ∧ W.cell? ⟨ga, oa + t * 4 + 3, none⟩ = some (.int .i64 (tg T t).d))) := fun W b => ⟨⟨cell_below hcl.1.2.1 b, cell_below hcl.1.2.2.1 b, cell_below hcl.1.2.2.2.1 b, cell_below hcl.1.2.2.2.2 b⟩, cell_below x0 b, cell_below x1 b, cell_below x2 b, cell_below x3 b⟩
          have KF : Hid (∀ W, Below wr.heap.size wr W → gl < W.heap.size ∧ ∀ j, W.frozen? ⟨gl, j, none⟩ = false) := fun W b => by
            have := HF.out.l.below b
            exact ⟨this.lt rfl, (grow_at this hs).2⟩
          have KN : Hid (∀ W, Below wr.heap.size wr W → ∀ W6, (W6 = (((W.setCell ⟨gl, i * 5 + 1, none⟩ (.int .i64 (s.v.sub (tg T t)).a)).setCell ⟨gl, i * 5 + 1 + 1, none⟩ (.int .i64 (s.v.sub (tg T t)).b)).setCell ⟨gl, i * 5 + 1 + 2, none⟩ (.int .i64 (s.v.sub (tg T t)).c)).setCell ⟨gl, i * 5 + 1 + 3, none⟩ (.int .i64 (s.v.sub (tg T t)).d)) → W6.cell? ⟨gl, i * 5, none⟩ = some (.string ⟨⟨s.nm⟩⟩) ∧ ∀ W7, Below W6.heap.size W6 W7 → W7.cell? ⟨gN, t, none⟩ = some (.string ⟨⟨nt⟩⟩) ∧ W7.frozen? ⟨gN, t, none⟩ = false ∧ gN < W7.heap.size ∧ Fl w (W7.setCell ⟨gN, t, none⟩ (.string ⟨⟨s.nm⟩⟩)) T S (some ⟨gl, 0, none⟩) m c2 gN gT (k + 1) (setV st.1 i (tg T t), st.2.set t s.nm)) := fun W b W6 e6 => by
            subst e6
            have h1 := HF.out.below b
            exact h1.wrote HT.out.1 hh hs hf HT.out.2 hnt
          rw [hh] at H24
          have H24' : Hid (Calls Tryz.prog 25 #[.agg #[.int .i64 (tg T t).a, .int .i64 (tg T t).b, .int .i64 (tg T t).c, .int .i64 (tg T t).d], .slice (some ⟨gl, 0, none⟩) m c2] wr fun e w' => e = .returned (.pointer (some ⟨gl, i * 5, none⟩)) ∧ Hid (Below wr.heap.size wr w')) := H24.out
          clear hs hf hsok hsm hsub hnt hcl H24 hh
          generalize s.v.sub (tg T t) = ds at *
          obtain ⟨da, db, dc, dd⟩ := ds
          generalize hu : tg T t = u at *
          obtain ⟨ua, ub, uc, ud⟩ := u
          obtain ⟨nm, ⟨sa, sb, sc, sd⟩⟩ := s
          simp only [] at x0 x1 x2 x3 H24' H25 H26 KC KN
          go_upto_region 12 with (go_at_call 25; refine H24'.out.mono ?_; rintro e w5 ⟨rfl, b5⟩)
          clear x0 x1 x2 x3 H24'
          have zz := KC.out w5 b5.out
          have HE : Hid (∀ W', Below w5.drew.heap.size w5.drew W' → Below wr.heap.size wr W') := fun W' b => below_from b5.out.drew b (by have := b5.out.size; exact this)
          obtain ⟨⟨y1, y2, y3, y4⟩, x0, x1, x2, x3⟩ := zz
          go_region_with (go_at_call 26; refine (H25.out _).mono ?_; rintro e w6 ⟨rfl, b6⟩; have b7 : Hid (Below wr.heap.size wr w6) := HE.out _ b6.out; have zz := KC.out _ b7.out; have hf6 := KF.out _ b7.out; have q1 := zz.1.1; have q2 := zz.1.2.1; have q3 := zz.1.2.2.1; have q4 := zz.1.2.2.2; have f0 := hf6.1; have f1 := hf6.2 (i * 5 + 1); have f2 := hf6.2 (i * 5 + 1 + 1); have f3 := hf6.2 (i * 5 + 1 + 2); have f4 := hf6.2 (i * 5 + 1 + 3); clear hf6 zz)
          all_goals
            obtain ⟨W6, hW6⟩ : ∃ W6, W6 = (((w6.setCell ⟨gl, i * 5 + 1, none⟩ (.int .i64 da)).setCell ⟨gl, i * 5 + 1 + 1, none⟩ (.int .i64 db)).setCell ⟨gl, i * 5 + 1 + 2, none⟩ (.int .i64 dc)).setCell ⟨gl, i * 5 + 1 + 3, none⟩ (.int .i64 dd) := ⟨_, rfl⟩
            obtain ⟨z0, hW7⟩ := KN.out w6 b7.out W6 hW6
            have HW7 : Hid (∀ W7, Below W6.heap.size W6 W7 → W7.cell? ⟨gN, t, none⟩ = some (.string ⟨⟨nt⟩⟩) ∧ W7.frozen? ⟨gN, t, none⟩ = false ∧ gN < W7.heap.size ∧ Fl w (W7.setCell ⟨gN, t, none⟩ (.string ⟨⟨nm⟩⟩)) T S (some ⟨gl, 0, none⟩) m c2 gN gT (k + 1) (setV st.1 i ⟨ua, ub, uc, ud⟩, st.2.set t nm)) := hW7
            rw [← hW6]
            clear hW6 hW7 q1 q2 q3 q4 f0 f1 f2 f3 f4 KC KF KN y1 y2 y3 y4 x0 x1 x2 x3 b6 b7 HE H25 HF
            go_wp2_with (go_at_call 27; refine (H26.out _).mono ?_; rintro e w7 ⟨rfl, b8⟩; obtain ⟨v1, v2, v3, v4⟩ := HW7.out _ b8.out; have HL : Hid (Fl w (w7.setCell ⟨gN, t, none⟩ (.string ⟨⟨nm⟩⟩)) T S (some ⟨gl, 0, none⟩) m c2 gN gT (k + 1) (setV st.1 i ⟨ua, ub, uc, ud⟩, st.2.set t nm)) := v4; clear v4)
            exact ⟨⟨k + 1, by simp, by omega, _, HL.out⟩, by simp only [intOf]; omega⟩
      · have hlt' : ¬ (k : Int) < (n : Int) := by omega
        have hd : decide ((k : Int) < (n : Int)) = false := decide_eq_false hlt'
        obtain ⟨st, hF⟩ := HI.out
        have HF : Hid (Fl w wr T S p m c2 gN gT k st) := hF
        clear HI hF
        have HR : Hid (fitR T S = (0, st.2)) := by
          have h1 := HF.out.f
          have hol : (ordT T).length = n := (ordT_ord T).length.trans HA.out.2.2.2.2.1
          rw [List.take_of_length_le (by omega)] at h1
          show _ = _
          unfold fitR
          rw [if_pos HK.out.2.2, h1]
        go_wp2_with fail
        go_ret2
        unfold FitP
        rw [HR.out]
        exact ⟨some ⟨gN, 0, none⟩, n, n, rfl, HF.out.z.trans HA.out.2.2.2.2.1, (fun e => nomatch e), HF.out.n.na, HF.out.b⟩
  · have HR : Hid (fitR T S = (chk T S, [])) := by show _ = _; unfold fitR; rw [if_neg hc]
    have e1 : ¬ ((chk T S : Nat) : Int) = 0 := by omega
    have e2 : (((chk T S : Nat) : Int) == 0) = false := by rw [beq_eq_false_iff_ne]; exact e1
    go_enter Tryz.func12, Tryz.ntmps12
    go_wp2_with (go_at_call 22; refine H21.out.mono ?_; rintro e w1 ⟨mv, rfl, h1⟩)
    go_ret2
    unfold FitP
    rw [HR.out]
    exact ⟨none, 0, 0, rfl, rfl, fun _ => rfl, GA.none, h1.out.2⟩
end Go.Proofs.YtjgibngnjlciaaaGreat

namespace Go.Proofs.YtjgibngnjlciaaaGreat
open Go.RowKit Go.Maps Go.Sort

def aT : List V := [⟨1, 0, 0, 0⟩, ⟨3, 0, 0, 0⟩]
def aS : List Sl := [⟨[97], ⟨3, 0, 0, 0⟩⟩, ⟨[98], ⟨3, 0, 0, 0⟩⟩]
theorem fit_awake : fitR aT aS = (0, [[98], [97]]) := by decide +kernel
def fewB (n m : Nat) : Bool := decide (n ≤ 100) && decide (m ≤ 100)
end Go.Proofs.YtjgibngnjlciaaaGreat
