/-
  QueueOrder's law.
-/
import Derived.Test.YthlbeofonbbbdaaTp
import Derived.BigQuiet
import Derived.Laws.Cover1
namespace Go.Proofs.Ythlbeofonbbbdaa
open Go.RowKit Go.Maps Go.WideMaps

theorem less_before : ∀ (a b : List UInt8), Op.bytesLess a b = bytesBefore a b
  | [], [] => rfl
  | [], _ :: _ => rfl
  | _ :: _, [] => rfl
  | x :: r, y :: s => by
    unfold Op.bytesLess bytesBefore
    rw [less_before r s]
theorem LQ.sub {w W : World} {X X' : Nat → Option Obj} {pb N : Nat} {D : List J} (h : LQ w W X' pb D N) (hX : ∀ k o, X k = some o → X' k = some o) : LQ w W X pb D N := by
  obtain ⟨S, h1, h2⟩ := h.q
  refine ⟨h.bel, ⟨S, h1, fun k hk => ⟨(h2 k hk).1, ?_⟩⟩, fun k o e => h.kept k o (hX k o e), h.sm⟩
  cases e : X k with
  | none => rfl
  | some o => have := hX k o e; rw [(h2 k hk).2] at this; cases this
theorem LQ.grow {α : Type} {e sz : Nat} {f : α → List Value} {w W W' : World} {X : Nat → Option Obj} {pb N : Nat} {D : List J} (h : LQ w W X pb D N) {v : Value} {l : List α} (hr : GRow e sz f W.heap.size W' v l) (hb : Below W.heap.size W W') : ∃ X', LQ w W' X' pb D N ∧ (∀ k o, X k = some o → X' k = some o) ∧ ∀ V D' N', LQ w V X' pb D' N' → GRow e sz f W.heap.size V v l := by
  rcases hr.2 with ⟨rfl, h0⟩ | ⟨g, cap, cur, rfl, hge, hg, h1, h2, h3, h4⟩
  · exact ⟨X, h.below hb, fun _ _ e => e, fun V D' N' _ => ⟨hr.1, .inl ⟨rfl, h0⟩⟩⟩
  · refine ⟨XS X g (.cells cur e (0, 0)), h.add hb hg hge, fun k o e => ?_, fun V D' N' hl => ⟨hr.1, .inr ⟨g, cap, cur, rfl, hge, hl.kept g _ (if_pos rfl), h1, h2, h3, h4⟩⟩⟩
    have := (Array.getElem?_eq_some_iff.1 (h.kept k o e)).1
    unfold XS
    rw [if_neg (by omega)]
    exact e
theorem jl_facts {a b : J} (h : jl a b = true) : ¬ a.pr < b.pr ∧ (a.pr = b.pr → ¬ b.job ≤ a.job) := by
  unfold jl at h
  simp only [Bool.or_eq_true, decide_eq_true_eq, Bool.and_eq_true] at h
  omega
theorem l_head {w W : World} {X : Nat → Option Obj} {pb N : Nat} {D : List J} (h : LQ w W X pb D N) (t : List UInt8) (ht : t.length ≤ 281474976710656) (r : J × Int) (hr : headD D t = r) : Calls Try.prog 15 #[.pointer (some ⟨pb, 0, none⟩), .string ⟨⟨t⟩⟩] W fun e w' => e = .returned (.tuple #[.agg #[.int .i64 r.1.job, .string ⟨⟨r.1.tn⟩⟩, .int .i64 r.1.pr], .int .i64 r.2]) ∧ Hid (Below W.heap.size W w') := by
  obtain ⟨S, h1, h2⟩ := h.q
  have := qhead_any h1 ⟨⟨t⟩⟩ (by show t.length ≤ _; unfold maxLen; omega)
  rw [show (⟨⟨t⟩⟩ : ByteArray).data.toList = t from rfl, hr] at this
  exact this
set_option maxHeartbeats 8000000 in
set_option maxRecDepth 100000 in
theorem order_law (q : Option Addr) (n c : Nat) (L : List J) (w : World) (hn : n = L.length) (hr : WArg w q L) (hm : n ≤ 9223372036854775807) :
    Calls Try.prog 4 #[.slice q n c] w fun e w' => e = .returned (.bool true) ∧ Below w.heap.size w w' := by
  have HA : Hid (∀ W, Calls Try.prog 8 #[] W fun e w' => e = .returned (.bool true) ∧ Hid (Below W.heap.size W w')) := awakeQ
  have HN : Hid (∀ W, Calls Try.prog 9 #[] W fun e w' => e = .returned (.pointer (some ⟨W.heap.size, 0, none⟩)) ∧ w' = W.alloc (.cells #[.map none, .map none] 54 (0, 0))) := newQ_any
  have HR : Hid (WArg w q L ∧ n = L.length) := ⟨hr, hn⟩
  clear hr hn
  by_cases h20 : 300 < n
  · have g1 : (300 : Int) < (n : Int) := by omega
    have g2 : decide ((300 : Int) < (n : Int)) = true := decide_eq_true g1
    clear HN HR
    go_enter Try.func4, Try.ntmps4
    go_wp2_with (first
      | (go_at_call 8; have _ := b1; refine (HA.out _).mono ?_; rintro e w3 ⟨rfl, b3⟩)
      | (go_at_call 8; refine (HA.out _).mono ?_; rintro e w1 ⟨rfl, b1⟩))
    go_ret
    exact ⟨rfl, b1.out.trans (b3.out.mono b1.out.size)⟩
  have g20 : ¬ (300 : Int) < (n : Int) := by omega
  have g20' : decide ((300 : Int) < (n : Int)) = false := decide_eq_false g20
  have h300 : n ≤ 300 := by omega
  clear hm
  go_enter Try.func4, Try.ntmps4
  go_upto_region 3 with (go_at_call 8; refine (HA.out _).mono ?_; rintro e w1 ⟨rfl, b1⟩)
  clear HA
  go_upto_region 4 with (go_at_call 9; refine (HN.out _).mono ?_; rintro e W0 ⟨rfl, h3⟩; obtain rfl := h3.symm)
  have HL0 : Hid (LQ w (w1.alloc (.cells #[.map none, .map none] 54 (0, 0))) NX w1.heap.size [] 0) := l_new b1.out fun k o e => by cases e
  clear HN b1 h20 g20' h3
  generalize w1.alloc (.cells #[.map none, .map none] 54 (0, 0)) = W0 at *
  generalize w1.heap.size = pb at *
  go_wp2_with fail
  go_loopw [4, 5] (fun y x wr => ∃ (i m : Nat), y = .int .i64 m ∧ x = .int .i64 i ∧ i ≤ n ∧ m ≤ 101 ∧ Hid (∃ D, LQ w wr NX pb D i ∧ m = D.length)) (fun _ x _ => n - (intOf x).toNat)
  case atStart => exact ⟨0, 0, rfl, rfl, Nat.zero_le _, by omega, _, HL0.out, rfl⟩
  case round =>
    obtain ⟨i, m, rfl, rfl, hin, hm101, HI⟩ := hrel
    clear HL0
    by_cases hi : i < n
    · have i1 : (i : Int) < (n : Int) := by omega
      have i2 : decide ((i : Int) < (n : Int)) = true := decide_eq_true i1
      obtain ⟨v, hv⟩ : ∃ v, L[i]? = some v := ⟨_, List.getElem?_eq_getElem (by have := HR.out.2; omega)⟩
      obtain ⟨D, hD, hM⟩ := HI.out
      obtain ⟨⟨g, f, rfl, h0, h1, h2⟩, hz⟩ := HR.out.1 i v hv
      have d0 := keep1c' hD.bel h0
      have d1 := keep1c' hD.bel h1
      have d2 := keep1c' hD.bel h2
      obtain ⟨r, hr⟩ : ∃ r, r = (pushD D v).1 := ⟨_, rfl⟩
      have H12 : Hid (Calls Try.prog 12 #[.pointer (some ⟨pb, 0, none⟩), .agg #[.int .i64 v.job, .string ⟨⟨v.tn⟩⟩, .int .i64 v.pr]] wr fun e w' => e = .returned (.int .i64 r) ∧ Hid (LQ w w' NX pb (pushD D v).2 (i + 1))) := by rw [hr]; exact l_push hD hz (by omega)
      have HSN : Hid (SJ D ∧ NJ D ∧ m = D.length) := ⟨hD.sj.1, hD.sj.2.1, hM⟩
      by_cases hp : r = 0
      · have HE : Hid (∀ W, LQ w W NX pb (pushD D v).2 (i + 1) → m + 1 ≤ 101 ∧ Hid (∃ D, LQ w W NX pb D (i + 1) ∧ m + 1 = D.length)) := fun W h => by
          have hp' : (pushD D v).1 = 0 := by rw [← hr]; exact hp
          have T := took HSN.out.1 HSN.out.2.1 hp'
          have e1 : m + 1 = (pushD D v).2.length := by rw [T.p, T.n, HSN.out.2.2]
          exact ⟨by rw [e1]; exact h.sj.2.2, _, h, e1⟩
        clear hr hD hM hv HI h0 h1 h2
        subst hp
        obtain ⟨vj, vt, vp⟩ := v
        simp only [] at d0 d1 d2 HE
        go_wp2_with (go_at_call 12; refine H12.out.mono ?_; rintro e w4 ⟨rfl, h4⟩)
        obtain ⟨f1, f2⟩ := HE.out _ h4.out
        exact ⟨⟨i + 1, m + 1, by simp, by simp, by omega, f1, f2⟩, by simp only [intOf]; omega⟩
      · have HE : Hid (∀ W, LQ w W NX pb (pushD D v).2 (i + 1) → ∃ D, LQ w W NX pb D (i + 1) ∧ m = D.length) := fun W h => by
          rw [took_not (by rw [← hr]; exact hp)] at h
          exact ⟨_, h, HSN.out.2.2⟩
        have p2 : (r == 0) = false := by simpa using hp
        have p3 : decide (r = 0) = false := decide_eq_false hp
        clear hr hD hM hv HI h0 h1 h2
        obtain ⟨vj, vt, vp⟩ := v
        simp only [] at d0 d1 d2 HE
        go_wp2_with (go_at_call 12; refine H12.out.mono ?_; rintro e w4 ⟨rfl, h4⟩)
        exact ⟨⟨i + 1, m, rfl, by simp, by omega, hm101, HE.out _ h4.out⟩, by simp only [intOf]; omega⟩
    · have i1 : ¬ (i : Int) < (n : Int) := by omega
      have i2 : decide ((i : Int) < (n : Int)) = false := decide_eq_false i1
      obtain ⟨D, hD, hM⟩ := HI.out
      have HD : Hid (LQ w wr NX pb D i) := hD
      obtain ⟨T, hT⟩ : ∃ T, T = tens D := ⟨_, rfl⟩
      obtain ⟨tn, htn⟩ : ∃ tn, tn = (tens D).length := ⟨_, rfl⟩
      have htl : Hid (T.length = tn) := by rw [hT, htn]; rfl
      have htn1 : tn ≤ 101 := by
        obtain ⟨S, ⟨⟨ow, mw, mh, l, q, k1, k2, k3, k4⟩, k5⟩, -⟩ := hD.q
        rw [htn, ← k1.tens k2 k3, List.length_map]
        exact k1.few
      have HT : Hid (T = tens D ∧ SJ D ∧ m = D.length ∧ ∀ t ∈ T, t.length ≤ 281474976710656) := ⟨hT, hD.sj.1, hM, fun t ht => by
        rw [hT] at ht
        obtain ⟨a, ha, rfl⟩ := mem_tens.1 ht
        exact hD.sm a ha⟩
      have H13 : Hid (Calls Try.prog 13 #[.pointer (some ⟨pb, 0, none⟩)] wr fun e w' => ∃ p c, e = .returned (.slice p tn c) ∧ Hid (SR wr.heap.size w' (.slice p tn c) T ∧ Below wr.heap.size wr w')) := by
        obtain ⟨S, k1, -⟩ := hD.q
        rw [hT, htn]
        exact tens_any k1
      clear hD hM HI HR hT htn
      go_upto_region 11 with (go_at_call 13; refine H13.out.mono ?_; rintro e W1 ⟨p1, c1, rfl, h1⟩)
      obtain ⟨X1, hq1, hx1, hrow⟩ := HD.out.grow h1.out.1 h1.out.2
      have HQ1 : Hid (LQ w W1 X1 pb D i) := hq1
      obtain ⟨base, ROW⟩ : ∃ base, Hid (∀ V D' N', LQ w V X1 pb D' N' → SR base V (.slice p1 tn c1) T) := ⟨_, hrow⟩
      clear HD h1 hq1 hx1 hrow H13
      go_wp2_with fail
      go_loopw [4, 7] (fun y x wr => ∃ (j cn : Nat), y = .int .i64 cn ∧ x = .int .i64 j ∧ j ≤ tn ∧ cn ≤ 101 ∧ Hid (∃ D', LQ w wr X1 pb D' i ∧ cn = D'.length ∧ tens D' = T.drop j)) (fun _ x _ => tn - (intOf x).toNat)
      case atStart => exact ⟨0, m, rfl, rfl, Nat.zero_le _, hm101, D, HQ1.out, HT.out.2.2.1, by rw [List.drop_zero]; exact HT.out.1.symm⟩
      case round =>
        obtain ⟨j, cn, rfl, rfl, hj, hcn, HJ⟩ := hrel
        clear HQ1
        by_cases hjn : j < tn
        · have k1 : (j : Int) < (tn : Int) := by omega
          have k2 : decide ((j : Int) < (tn : Int)) = true := decide_eq_true k1
          obtain ⟨t, ht⟩ : ∃ t, T[j]? = some t := ⟨_, List.getElem?_eq_getElem (by have := htl.out; omega)⟩
          obtain ⟨D1, hD1, hcl, hT1⟩ := HJ.out
          rw [List.drop_eq_getElem_cons (by have := htl.out; omega), (List.getElem?_eq_some_iff.1 ht).2] at hT1
          obtain ⟨hE, hne⟩ := em_start hD1.sj.1 hD1.sj.2.1 hT1
          obtain ⟨Lt, hLt⟩ : ∃ Lt, Lt = ofT t D1 := ⟨_, rfl⟩
          obtain ⟨lm, hlm⟩ : ∃ lm, lm = (ofT t D1).length := ⟨_, rfl⟩
          have hlm1 : lm ≤ 101 := by
            have := List.length_filter_le (fun a : J => a.tn == t) D1
            have h2 := hD1.sj.2.2
            rw [hlm]; unfold ofT; omega
          have hll : Hid (Lt.length = lm) := by rw [hLt, hlm]; rfl
          have HLJ : Hid (∀ k a b, Lt[k]? = some a → Lt[k + 1]? = some b → jl a b = true) := fun k a b ha hb => by rw [hLt] at ha hb; exact ofT_jl hD1.sj.1 ha hb
          have HE0 : Hid (LQ w wr X1 pb D1 i ∧ cn = D1.length ∧ Em D1 t Lt (T.drop (j + 1))) := ⟨hD1, hcl, by rw [hLt]; exact hE⟩
          have htz : Hid (t.length ≤ 281474976710656) := HT.out.2.2.2 t (List.mem_of_getElem? ht)
          have H14 : Hid (Calls Try.prog 14 #[.pointer (some ⟨pb, 0, none⟩), .string ⟨⟨t⟩⟩] wr fun e w' => ∃ p c, e = .returned (.slice p lm c) ∧ Hid (WRow wr.heap.size w' (.slice p lm c) Lt ∧ Below wr.heap.size wr w')) := by rw [hlm, hLt]; exact l_list hD1 t
          obtain ⟨gt, rfl, hgt⟩ := (ROW.out _ _ _ hD1).at sC_len ht
          have y0 := hgt 0 _ rfl
          simp only [Nat.mul_one, Nat.add_zero] at y0
          have HTC : Hid (∀ V D' N', LQ w V X1 pb D' N' → ∀ k t', T[k]? = some t' → V.cell? ⟨gt, k, none⟩ = some (.string ⟨⟨t'⟩⟩)) := fun V D' N' h k t' hk => by
            obtain ⟨g', e, hg'⟩ := (ROW.out V D' N' h).at sC_len hk
            cases e
            simpa using hg' 0 _ rfl
          clear HJ hD1 hcl hT1 hE hne hLt hlm hgt ROW
          go_upto_region 15 with (go_at_call 14; refine H14.out.mono ?_; rintro e W2 ⟨p2, c2, rfl, h2⟩)
          obtain ⟨X2, hq2, hx2, hrow⟩ := HE0.out.1.grow h2.out.1 h2.out.2
          have HQ2 : Hid (LQ w W2 X2 pb D1 i ∧ cn = D1.length ∧ Em D1 t Lt (T.drop (j + 1))) := ⟨hq2, HE0.out.2⟩
          have HX2 : Hid (∀ k o, X1 k = some o → X2 k = some o) := hx2
          obtain ⟨base2, ROW2⟩ : ∃ base, Hid (∀ V D' N', LQ w V X2 pb D' N' → WRow base V (.slice p2 lm c2) Lt) := ⟨_, hrow⟩
          clear HE0 h2 hq2 hx2 hrow H14 y0
          go_wp2_with fail
          go_loopw [4, 9] (fun y x wr => ∃ (k cm : Nat), y = .int .i64 cm ∧ x = .int .i64 k ∧ k ≤ lm ∧ cm ≤ 101 ∧ Hid (∃ D', LQ w wr X2 pb D' i ∧ cm = D'.length ∧ Em D' t (Lt.drop k) (T.drop (j + 1)))) (fun _ x _ => lm - (intOf x).toNat)
          case atStart => exact ⟨0, cn, rfl, rfl, Nat.zero_le _, hcn, D1, HQ2.out⟩
          case round =>
            obtain ⟨k, cm, rfl, rfl, hk, hcm, HK⟩ := hrel
            clear HQ2
            by_cases hkl : k < lm
            · have l1 : (k : Int) < (lm : Int) := by omega
              have l2 : decide ((k : Int) < (lm : Int)) = true := decide_eq_true l1
              obtain ⟨a, ha⟩ : ∃ a, Lt[k]? = some a := ⟨_, List.getElem?_eq_getElem (by have := hll.out; omega)⟩
              obtain ⟨D', hD', hcl, hE⟩ := HK.out
              rw [List.drop_eq_getElem_cons (by have := hll.out; omega), (List.getElem?_eq_some_iff.1 ha).2] at hE
              obtain ⟨e1, e2, e3, D2, e4, e5, e6⟩ := em_step hE
              have e7 : cm = D2.length + 1 := by rw [hcl, e5]; rfl
              have hwf : wf a.job := by
                obtain ⟨S, ⟨⟨ow, mw, mh, l, q, f1, f2, f3, f4⟩, f5⟩, -⟩ := hD'.q
                obtain ⟨x, hx, hx2⟩ := List.mem_map.1 (f2.mem_iff.2 (fJ_some e3).1)
                have := f1.W.ok x hx
                rw [hx2] at this
                exact wf_ok this
              have HNX : Hid (∀ W, LQ w W X2 pb D' i → Calls Try.prog 16 #[.pointer (some ⟨pb, 0, none⟩), .int .i64 a.job] W fun e w' => e = .returned (.int .i64 0) ∧ Hid (∃ D', LQ w w' X2 pb D' i ∧ cm - 1 = D'.length ∧ Em D' t (Lt.drop (k + 1)) (T.drop (j + 1)))) := fun W h => by
                have := l_rem h a.job hwf
                rw [e4] at this
                exact this.mono fun e w' ⟨h1, h2⟩ => ⟨h1, D2, h2.out, by omega, e6⟩
              have HQ : Hid (LQ w wr X2 pb D' i) := hD'
              have H15 : Hid (Calls Try.prog 15 #[.pointer (some ⟨pb, 0, none⟩), .string ⟨⟨t⟩⟩] wr fun e w' => e = .returned (.tuple #[.agg #[.int .i64 a.job, .string ⟨⟨t⟩⟩, .int .i64 a.pr], .int .i64 0]) ∧ Hid (Below wr.heap.size wr w')) := by
                have := l_head hD' t htz.out _ e2
                simp only [e1] at this
                exact this
              have y0 := HTC.out _ _ _ (hD'.sub HX2.out) j t ht
              have hcm0 : 1 ≤ cm := by omega
              obtain ⟨gl, rfl, hgl⟩ := (ROW2.out _ _ _ hD').at wC_len ha
              have HLC : Hid (∀ V D' N', LQ w V X2 pb D' N' → ∀ k a', Lt[k]? = some a' → V.cell? ⟨gl, k * 3, none⟩ = some (.int .i64 a'.job) ∧ V.cell? ⟨gl, k * 3 + 1, none⟩ = some (.string ⟨⟨a'.tn⟩⟩) ∧ V.cell? ⟨gl, k * 3 + 2, none⟩ = some (.int .i64 a'.pr)) := fun V D' N' h k a' hk => by
                obtain ⟨g', e, hg'⟩ := (ROW2.out V D' N' h).at wC_len hk
                cases e
                exact ⟨hg' 0 _ rfl, hg' 1 _ rfl, hg' 2 _ rfl⟩
              have HA1 : Hid (Lt[k]? = some a ∧ a.tn = t) := ⟨ha, e1⟩
              clear HK hD' hcl hE e1 e2 e3 e4 e5 e6 e7 hwf hgl ROW2 ha
              obtain ⟨aj, at', ap⟩ := a
              simp only [] at HNX H15
              go_upto_region 19 with (go_at_call 15; refine H15.out.mono ?_; rintro e w7 ⟨rfl, b7⟩)
              have HQ4 : Hid (LQ w (w7.alloc (.cells #[.int .i64 aj, .string ⟨⟨t⟩⟩, .int .i64 ap] 32)) X2 pb D' i) := HQ.out.below (b7.out.alloc b7.out.size _)
              obtain ⟨n0, n1, n2⟩ := c3 (new0 (w := w7) (o := .cells #[.int .i64 aj, .string ⟨⟨t⟩⟩, .int .i64 ap] 32))
              have n3 : w7.heap.size < (w7.alloc (.cells #[.int .i64 aj, .string ⟨⟨t⟩⟩, .int .i64 ap] 32)).heap.size := by simp
              clear b7 H15 y0 HQ
              generalize w7.alloc (.cells #[.int .i64 aj, .string ⟨⟨t⟩⟩, .int .i64 ap] 32) = W4 at *
              generalize w7.heap.size = bb at *
              have y0 := HTC.out _ _ _ (HQ4.out.sub HX2.out) j t ht
              obtain ⟨z0, z1, z2⟩ := HLC.out _ _ _ HQ4.out k _ HA1.out.1
              obtain rfl := HA1.out.2
              simp only [] at z0 z1 z2 y0 n1
              have q32 := eq32 aj ap ⟨⟨at'⟩⟩
              rcases Nat.eq_zero_or_pos j with hj0 | hj0
              · have j1 : decide ((0 : Int) < (j : Int)) = false := decide_eq_false (by omega)
                have j2 : decide (0 < j) = false := decide_eq_false (by omega)
                have j3 : ¬ (0 : Int) < (j : Int) := by omega
                have j4 : ¬ 0 < j := by omega
                clear hj0
                go_quiet (fail)
                have HQ5 : Hid (LQ w (W4.drewN nq) X2 pb D' i) := HQ4.out.below (below_drewN (Below.refl _ _) nq)
                have m0 : (W4.drewN nq).cell? ⟨bb, 0, none⟩ = some (.int .i64 aj) := n0
                have m1 : (W4.drewN nq).cell? ⟨bb, 1, none⟩ = some (.string ⟨⟨at'⟩⟩) := n1
                have m2 : (W4.drewN nq).cell? ⟨bb, 2, none⟩ = some (.int .i64 ap) := n2
                clear n0 n1 n2 n3 y0 z0 z1 z2 q32 HQ4
                generalize W4.drewN nq = W5 at *
                go_upto_region 21 with fail
                rcases Nat.eq_zero_or_pos k with hk0 | hk0
                · have q1 : decide ((0 : Int) < (k : Int)) = false := decide_eq_false (by omega)
                  have q2 : decide (0 < k) = false := decide_eq_false (by omega)
                  have q3 : ¬ (0 : Int) < (k : Int) := by omega
                  have q4 : ¬ 0 < k := by omega
                  clear hk0
                  go_quiet (fail)
                  have HQ6 : Hid (LQ w (W5.drewN nq) X2 pb D' i) := HQ5.out.below (below_drewN (Below.refl _ _) nq)
                  have r0 : (W5.drewN nq).cell? ⟨bb, 0, none⟩ = some (.int .i64 aj) := m0
                  clear m0 m1 m2 HQ5
                  generalize W5.drewN nq = W6 at *
                  go_wp2_with (go_at_call 16; refine (HNX.out _ HQ6.out).mono ?_; rintro e w9 ⟨rfl, h9⟩)
                  exact ⟨⟨k + 1, cm - 1, by congr 1; omega, by simp, by omega, by omega, h9.out⟩, by simp [intOf]; omega⟩
                · obtain ⟨k', hk'⟩ : ∃ k', k = k' + 1 := ⟨k - 1, by omega⟩
                  obtain ⟨b, hb⟩ : ∃ b, Lt[k']? = some b := ⟨_, List.getElem?_eq_getElem (by have := hll.out; omega)⟩
                  obtain ⟨u0, u1, u2⟩ := HLC.out _ _ _ HQ5.out k' _ hb
                  obtain ⟨f1, f2⟩ := jl_facts (HLJ.out k' b _ hb (by rw [← hk']; exact HA1.out.1))
                  have q1 : decide ((0 : Int) < (k : Int)) = true := decide_eq_true (by omega)
                  have q2 : decide (0 < k) = true := decide_eq_true (by omega)
                  have q3 : (0 : Int) < (k : Int) := by omega
                  have q4 : (k : Int) - 1 = (k' : Int) := by omega
                  have q5 : (k' : Int) < (lm : Int) := by omega
                  have q6 : 0 < k := by omega
                  have q7 : k' < lm := by omega
                  have q8 : (k : Int) ≤ 101 := by omega
                  obtain ⟨bj, bt, bp⟩ := b
                  simp only [] at u0 u1 u2 f1 f2
                  have f3 : decide (bp < ap) = false := decide_eq_false f1
                  clear hk' hb
                  by_cases e : bp = ap
                  · have f4 := f2 e
                    have f5 : decide (aj ≤ bj) = false := decide_eq_false f4
                    subst e
                    clear f2
                    go_quiet (fail)
                    have HQ6 : Hid (LQ w (W5.drewN nq) X2 pb D' i) := HQ5.out.below (below_drewN (Below.refl _ _) nq)
                    have r0 : (W5.drewN nq).cell? ⟨bb, 0, none⟩ = some (.int .i64 aj) := m0
                    clear u0 u1 u2 m0 m1 m2 HQ5
                    generalize W5.drewN nq = W6 at *
                    go_wp2_with (go_at_call 16; refine (HNX.out _ HQ6.out).mono ?_; rintro e w9 ⟨rfl, h9⟩)
                    exact ⟨⟨k + 1, cm - 1, by congr 1; omega, by simp, by omega, by omega, h9.out⟩, by simp [intOf]; omega⟩
                  · have f4 : (bp == ap) = false := by simpa using e
                    have f5 : decide (bp = ap) = false := decide_eq_false e
                    clear f2
                    go_quiet (fail)
                    have HQ6 : Hid (LQ w (W5.drewN nq) X2 pb D' i) := HQ5.out.below (below_drewN (Below.refl _ _) nq)
                    have r0 : (W5.drewN nq).cell? ⟨bb, 0, none⟩ = some (.int .i64 aj) := m0
                    clear u0 u1 u2 m0 m1 m2 HQ5
                    generalize W5.drewN nq = W6 at *
                    go_wp2_with (go_at_call 16; refine (HNX.out _ HQ6.out).mono ?_; rintro e w9 ⟨rfl, h9⟩)
                    exact ⟨⟨k + 1, cm - 1, by congr 1; omega, by simp, by omega, by omega, h9.out⟩, by simp [intOf]; omega⟩
              · obtain ⟨j', hj'⟩ : ∃ j', j = j' + 1 := ⟨j - 1, by omega⟩
                obtain ⟨s, hs⟩ : ∃ s, T[j']? = some s := ⟨_, List.getElem?_eq_getElem (by have := htl.out; omega)⟩
                have y1 := HTC.out _ _ _ (HQ4.out.sub HX2.out) j' s hs
                have hless : Op.bytesLess s at' = true := by
                  rw [less_before]
                  refine tens_lt HT.out.2.1 (i := j') ?_ ?_
                  · rw [← HT.out.1]; exact hs
                  · rw [← HT.out.1, ← hj']; exact ht
                have j1 : decide ((0 : Int) < (j : Int)) = true := decide_eq_true (by omega)
                have j2 : decide (0 < j) = true := decide_eq_true (by omega)
                have j3 : (0 : Int) < (j : Int) := by omega
                have j4 : (j : Int) - 1 = (j' : Int) := by omega
                have j5 : (j' : Int) < (tn : Int) := by omega
                have j6 : 0 < j := by omega
                have j7 : j' < tn := by omega
                have j8 : (j : Int) ≤ 101 := by omega
                have j9 : IntKind.i64.wrap (j' : Int) = (j' : Int) := by simp [IntKind.wrap, IntKind.bits, IntKind.signed]; omega
                clear hj' hs
                go_quiet (fail)
                have HQ5 : Hid (LQ w (W4.drewN nq) X2 pb D' i) := HQ4.out.below (below_drewN (Below.refl _ _) nq)
                have m0 : (W4.drewN nq).cell? ⟨bb, 0, none⟩ = some (.int .i64 aj) := n0
                have m1 : (W4.drewN nq).cell? ⟨bb, 1, none⟩ = some (.string ⟨⟨at'⟩⟩) := n1
                have m2 : (W4.drewN nq).cell? ⟨bb, 2, none⟩ = some (.int .i64 ap) := n2
                clear y1 hless n0 n1 n2 n3 y0 z0 z1 z2 q32 HQ4
                generalize W4.drewN nq = W5 at *
                go_upto_region 21 with fail
                rcases Nat.eq_zero_or_pos k with hk0 | hk0
                · have q1 : decide ((0 : Int) < (k : Int)) = false := decide_eq_false (by omega)
                  have q2 : decide (0 < k) = false := decide_eq_false (by omega)
                  have q3 : ¬ (0 : Int) < (k : Int) := by omega
                  have q4 : ¬ 0 < k := by omega
                  clear hk0
                  go_quiet (fail)
                  have HQ6 : Hid (LQ w (W5.drewN nq) X2 pb D' i) := HQ5.out.below (below_drewN (Below.refl _ _) nq)
                  have r0 : (W5.drewN nq).cell? ⟨bb, 0, none⟩ = some (.int .i64 aj) := m0
                  clear m0 m1 m2 HQ5
                  generalize W5.drewN nq = W6 at *
                  go_wp2_with (go_at_call 16; refine (HNX.out _ HQ6.out).mono ?_; rintro e w9 ⟨rfl, h9⟩)
                  exact ⟨⟨k + 1, cm - 1, by congr 1; omega, by simp, by omega, by omega, h9.out⟩, by simp [intOf]; omega⟩
                · obtain ⟨k', hk'⟩ : ∃ k', k = k' + 1 := ⟨k - 1, by omega⟩
                  obtain ⟨b, hb⟩ : ∃ b, Lt[k']? = some b := ⟨_, List.getElem?_eq_getElem (by have := hll.out; omega)⟩
                  obtain ⟨u0, u1, u2⟩ := HLC.out _ _ _ HQ5.out k' _ hb
                  obtain ⟨f1, f2⟩ := jl_facts (HLJ.out k' b _ hb (by rw [← hk']; exact HA1.out.1))
                  have q1 : decide ((0 : Int) < (k : Int)) = true := decide_eq_true (by omega)
                  have q2 : decide (0 < k) = true := decide_eq_true (by omega)
                  have q3 : (0 : Int) < (k : Int) := by omega
                  have q4 : (k : Int) - 1 = (k' : Int) := by omega
                  have q5 : (k' : Int) < (lm : Int) := by omega
                  have q6 : 0 < k := by omega
                  have q7 : k' < lm := by omega
                  have q8 : (k : Int) ≤ 101 := by omega
                  obtain ⟨bj, bt, bp⟩ := b
                  simp only [] at u0 u1 u2 f1 f2
                  have f3 : decide (bp < ap) = false := decide_eq_false f1
                  clear hk' hb
                  by_cases e : bp = ap
                  · have f4 := f2 e
                    have f5 : decide (aj ≤ bj) = false := decide_eq_false f4
                    subst e
                    clear f2
                    go_quiet (fail)
                    have HQ6 : Hid (LQ w (W5.drewN nq) X2 pb D' i) := HQ5.out.below (below_drewN (Below.refl _ _) nq)
                    have r0 : (W5.drewN nq).cell? ⟨bb, 0, none⟩ = some (.int .i64 aj) := m0
                    clear u0 u1 u2 m0 m1 m2 HQ5
                    generalize W5.drewN nq = W6 at *
                    go_wp2_with (go_at_call 16; refine (HNX.out _ HQ6.out).mono ?_; rintro e w9 ⟨rfl, h9⟩)
                    exact ⟨⟨k + 1, cm - 1, by congr 1; omega, by simp, by omega, by omega, h9.out⟩, by simp [intOf]; omega⟩
                  · have f4 : (bp == ap) = false := by simpa using e
                    have f5 : decide (bp = ap) = false := decide_eq_false e
                    clear f2
                    go_quiet (fail)
                    have HQ6 : Hid (LQ w (W5.drewN nq) X2 pb D' i) := HQ5.out.below (below_drewN (Below.refl _ _) nq)
                    have r0 : (W5.drewN nq).cell? ⟨bb, 0, none⟩ = some (.int .i64 aj) := m0
                    clear u0 u1 u2 m0 m1 m2 HQ5
                    generalize W5.drewN nq = W6 at *
                    go_wp2_with (go_at_call 16; refine (HNX.out _ HQ6.out).mono ?_; rintro e w9 ⟨rfl, h9⟩)
                    exact ⟨⟨k + 1, cm - 1, by congr 1; omega, by simp, by omega, by omega, h9.out⟩, by simp [intOf]; omega⟩
            · have l1 : ¬ (k : Int) < (lm : Int) := by omega
              have l2 : decide ((k : Int) < (lm : Int)) = false := decide_eq_false l1
              obtain ⟨D', hD', hcl, hE⟩ := HK.out
              rw [List.drop_eq_nil_of_le (by have := hll.out; omega)] at hE
              obtain ⟨e1, e2⟩ := em_end hE
              have HF : Hid (LQ w wr X1 pb D' i ∧ cm = D'.length ∧ tens D' = T.drop (j + 1)) := ⟨hD'.sub HX2.out, hcl, e2⟩
              have H15 : Hid (Calls Try.prog 15 #[.pointer (some ⟨pb, 0, none⟩), .string ⟨⟨t⟩⟩] wr fun e w' => e = .returned (.tuple #[.agg #[.int .i64 0, .string ⟨⟨[]⟩⟩, .int .i64 0], .int .i64 3]) ∧ Hid (Below wr.heap.size wr w')) := l_head hD' t htz.out _ e1
              have y0 := HTC.out _ _ _ HF.out.1 j t ht
              clear HK hD' hcl hE e1 e2 ROW2 HTC HLJ
              go_wp2_with (go_at_call 15; refine H15.out.mono ?_; rintro e w7 ⟨rfl, b7⟩)
              exact ⟨⟨j + 1, cm, rfl, by simp, by omega, hcm, D', HF.out.1.below (b7.out.alloc b7.out.size _), HF.out.2⟩, by simp [intOf]; omega⟩
        · have k1 : ¬ (j : Int) < (tn : Int) := by omega
          have k2 : decide ((j : Int) < (tn : Int)) = false := decide_eq_false k1
          obtain ⟨D', hD', hcl, hT'⟩ := HJ.out
          rw [List.drop_eq_nil_of_le (by have := htl.out; omega)] at hT'
          obtain rfl := tens_nil hT'
          obtain rfl : cn = 0 := hcl
          have HF : Hid (LQ w wr X1 pb [] i) := hD'
          have H11 : Hid (Calls Try.prog 11 #[.pointer (some ⟨pb, 0, none⟩)] wr fun e w' => e = .returned (.int .i64 0) ∧ w' = wr) := l_len hD'
          have H13 : Hid (Calls Try.prog 13 #[.pointer (some ⟨pb, 0, none⟩)] wr fun e w' => ∃ p c, e = .returned (.slice p 0 c) ∧ Hid (Below wr.heap.size wr w')) := by
            obtain ⟨S, k1, -⟩ := hD'.q
            refine (tens_any k1).mono ?_
            rintro e w' ⟨p, c, rfl, h⟩
            exact ⟨p, c, rfl, h.out.2⟩
          clear HJ hD' hT' ROW
          go_wp2_with (first
            | (go_at_call 11; refine H11.out.mono ?_; rintro e w7 ⟨rfl, h7⟩; obtain rfl := h7.symm)
            | (go_at_call 13; refine H13.out.mono ?_; rintro e w8 ⟨p8, c8, rfl, h8⟩))
          go_ret
          exact ⟨by simp, HF.out.bel.trans (h8.out.mono HF.out.bel.size)⟩
end Go.Proofs.Ythlbeofonbbbdaa
