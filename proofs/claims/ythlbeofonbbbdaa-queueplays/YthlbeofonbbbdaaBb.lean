/-
  QueueBack's law.
-/
import Derived.Test.YthlbeofonbbbdaaBa
namespace Go.Proofs.Ythlbeofonbbbdaa
open Go.RowKit Go.Maps Go.WideMaps

/-- waiters as an argument -/
def WArg (w : World) (q : Option Addr) (L : List J) : Prop := ∀ (i : Nat) (o : J), L[i]? = some o → (∃ g f, q = some ⟨g, f, none⟩ ∧ w.cell? ⟨g, f + i * 3, none⟩ = some (.int .i64 o.job) ∧ w.cell? ⟨g, f + i * 3 + 1, none⟩ = some (.string ⟨⟨o.tn⟩⟩) ∧ w.cell? ⟨g, f + i * 3 + 2, none⟩ = some (.int .i64 o.pr)) ∧ o.tn.length ≤ 281474976710656
theorem WArg.at {w W : World} {q : Option Addr} {L : List J} (h : WArg w q L) (b : Below w.heap.size w W) {i : Nat} {o : J} (hi : L[i]? = some o) : ∃ g f, q = some ⟨g, f, none⟩ ∧ W.cell? ⟨g, f + i * 3, none⟩ = some (.int .i64 o.job) ∧ W.cell? ⟨g, f + i * 3 + 1, none⟩ = some (.string ⟨⟨o.tn⟩⟩) ∧ W.cell? ⟨g, f + i * 3 + 2, none⟩ = some (.int .i64 o.pr) := by
  obtain ⟨⟨g, f, rfl, h0, h1, h2⟩, -⟩ := h i o hi
  exact ⟨g, f, rfl, keep1c' b h0, keep1c' b h1, keep1c' b h2⟩
set_option maxRecDepth 100000 in
theorem eq32 (j p : Int) (s : ByteArray) (w : World) : (Op.equalIn 10000 32 (.agg #[.int .i64 j, .string s, .int .i64 p]) (.agg #[.int .i64 j, .string s, .int .i64 p])).run Try.prog w = .ok true w := by
  have eqi (a : Int) (w : World) : (Op.equalIn 9999 2 (.int .i64 a) (.int .i64 a)).run Try.prog w = .ok (a == a) w := run_equalIn_int w 9998 2 .i64 .i64 a a Try.underlying2
  have eqs (w : World) : (Op.equalIn 9999 9 (.string s) (.string s)).run Try.prog w = .ok (s.toList == s.toList) w := run_equalIn_string w 9998 9 s s Try.underlying9
  rw [run_equalIn_struct w 9999 32 _ _ Try.underlying32 (by kernel_rfl)]
  simp [Program.fieldsOf, Try.underlying32, Op.eqFields, prt0, prt1, prt2, eqi, eqs]
/-- the law's box -/
def bxO (x : J) : Obj := .cells #[.int .i64 x.job, .string ⟨⟨x.tn⟩⟩, .int .i64 x.pr] 32 (0, 0)
def XB (w : World) (x : J) : Nat → Option Obj := fun k => if k = w.heap.size then some (bxO x) else none
theorem LQ.box {w W : World} {X : Nat → Option Obj} {pb N : Nat} {D : List J} {x : J} (h : LQ w W X pb D N) (hX : X w.heap.size = some (bxO x)) : W.cell? ⟨w.heap.size, 0, none⟩ = some (.int .i64 x.job) ∧ W.cell? ⟨w.heap.size, 1, none⟩ = some (.string ⟨⟨x.tn⟩⟩) ∧ W.cell? ⟨w.heap.size, 2, none⟩ = some (.int .i64 x.pr) ∧ w.heap.size < W.heap.size := by
  have := h.kept _ _ hX
  obtain ⟨a, b, c⟩ := c3 this
  exact ⟨a, b, c, (Array.getElem?_eq_some_iff.1 this).1⟩
set_option maxHeartbeats 8000000 in
set_option maxRecDepth 100000 in
theorem back_law (q : Option Addr) (n c : Nat) (L : List J) (x : J) (w : World) (hn : n = L.length) (hr : WArg w q L) (hx : x.tn.length ≤ 281474976710656) (hm : n ≤ 9223372036854775807) :
    Calls Try.prog 6 #[.slice q n c, .agg #[.int .i64 x.job, .string ⟨⟨x.tn⟩⟩, .int .i64 x.pr]] w fun e w' => e = .returned (.bool true) ∧ Below w.heap.size w w' := by
  have HA : Hid (∀ W, Calls Try.prog 8 #[] W fun e w' => e = .returned (.bool true) ∧ Hid (Below W.heap.size W w')) := awakeQ
  have HN : Hid (∀ W, Calls Try.prog 9 #[] W fun e w' => e = .returned (.pointer (some ⟨W.heap.size, 0, none⟩)) ∧ w' = W.alloc (.cells #[.map none, .map none] 54 (0, 0))) := newQ_any
  have HR : Hid (WArg w q L ∧ n = L.length) := ⟨hr, hn⟩
  have HX : Hid (x.tn.length ≤ 281474976710656) := hx
  have B0 : Hid (Below w.heap.size w (w.alloc (.cells #[.int .i64 x.job, .string ⟨⟨x.tn⟩⟩, .int .i64 x.pr] 32)) ∧ (w.alloc (.cells #[.int .i64 x.job, .string ⟨⟨x.tn⟩⟩, .int .i64 x.pr] 32)).heap[w.heap.size]? = some (bxO x)) := ⟨(Below.refl _ w).alloc (Nat.le_refl _) _, new0⟩
  clear hr hn hx
  by_cases h20 : 300 < n
  · have g1 : (300 : Int) < (n : Int) := by omega
    have g2 : decide ((300 : Int) < (n : Int)) = true := decide_eq_true g1
    clear HN HR
    go_enter Try.func6, Try.ntmps6
    go_wp2_with (first
      | (go_at_call 8; have _ := b1; refine (HA.out _).mono ?_; rintro e w3 ⟨rfl, b3⟩)
      | (go_at_call 8; refine (HA.out _).mono ?_; rintro e w1 ⟨rfl, b1⟩))
    go_ret
    have b01 := B0.out.1.trans (b1.out.mono B0.out.1.size)
    exact ⟨rfl, b01.trans (b3.out.mono b01.size)⟩
  have g20 : ¬ (300 : Int) < (n : Int) := by omega
  have g20' : decide ((300 : Int) < (n : Int)) = false := decide_eq_false g20
  have h300 : n ≤ 300 := by omega
  clear hm
  go_enter Try.func6, Try.ntmps6
  go_upto_region 3 with (go_at_call 8; refine (HA.out _).mono ?_; rintro e w1 ⟨rfl, b1⟩)
  clear HA
  go_upto_region 4 with (go_at_call 9; refine (HN.out _).mono ?_; rintro e W0 ⟨rfl, h3⟩; obtain rfl := h3.symm)
  have hX0 : Hid (XB w x w.heap.size = some (bxO x)) := if_pos rfl
  have HL0 : Hid (LQ w (w1.alloc (.cells #[.map none, .map none] 54 (0, 0))) (XB w x) w1.heap.size [] 0) := by
    refine l_new (B0.out.1.trans (b1.out.mono B0.out.1.size)) fun k o e => ?_
    unfold XB at e
    split at e
    · rename_i e2
      rw [e2, ← Option.some.inj e]
      exact at_below b1.out (Nat.le_refl _) B0.out.2
    · cases e
  clear HN b1 h20 g20' B0 h3
  generalize w1.alloc (.cells #[.map none, .map none] 54 (0, 0)) = W0 at *
  generalize w1.heap.size = pb at *
  generalize XB w x = X at *
  go_wp2_with fail
  go_loopw [6] (fun x wr => ∃ i : Nat, x = .int .i64 i ∧ i ≤ n ∧ Hid (∃ D, LQ w wr X pb D i)) (fun x _ => n - (intOf x).toNat)
  case atStart => exact ⟨0, rfl, Nat.zero_le _, _, HL0.out⟩
  case round =>
    obtain ⟨i, rfl, hin, HI⟩ := hrel
    clear HL0
    by_cases hi : i < n
    · have i1 : (i : Int) < (n : Int) := by omega
      have i2 : decide ((i : Int) < (n : Int)) = true := decide_eq_true i1
      obtain ⟨v, hv⟩ : ∃ v, L[i]? = some v := ⟨_, List.getElem?_eq_getElem (by have := HR.out.2; omega)⟩
      obtain ⟨D, hD⟩ := HI.out
      obtain ⟨g, f, rfl, d0, d1, d2⟩ := HR.out.1.at hD.bel hv
      have H12 : Hid (Calls Try.prog 12 #[.pointer (some ⟨pb, 0, none⟩), .agg #[.int .i64 v.job, .string ⟨⟨v.tn⟩⟩, .int .i64 v.pr]] wr fun e w' => (∃ c : Int, e = .returned (.int .i64 c)) ∧ Hid (∃ D, LQ w w' X pb D (i + 1))) := (l_push hD (HR.out.1 i v hv).2 (by omega)).mono fun e w' ⟨he, hl⟩ => ⟨⟨_, he⟩, _, hl.out⟩
      clear hD hv HI HX
      obtain ⟨vj, vt, vp⟩ := v
      simp only [] at d0 d1 d2 H12
      go_wp2_with (go_at_call 12; refine H12.out.mono ?_; rintro e w4 ⟨⟨cc, rfl⟩, h4⟩)
      exact ⟨⟨i + 1, by simp, by omega, h4.out⟩, by simp only [intOf]; omega⟩
    · have i1 : ¬ (i : Int) < (n : Int) := by omega
      have i2 : decide ((i : Int) < (n : Int)) = false := decide_eq_false i1
      obtain ⟨D, hD⟩ := HI.out
      have HD : Hid (LQ w wr X pb D i) := hD
      have SN : Hid (SJ D ∧ NJ D) := ⟨hD.sj.1, hD.sj.2.1⟩
      obtain ⟨L1, hL1⟩ : ∃ L1, L1 = ofT x.tn D := ⟨_, rfl⟩
      obtain ⟨m, hm⟩ : ∃ m, m = (ofT x.tn D).length := ⟨_, rfl⟩
      obtain ⟨dn, hdn⟩ : ∃ dn, dn = D.length := ⟨_, rfl⟩
      have hdn1 : dn ≤ 101 := by rw [hdn]; exact hD.sj.2.2
      have hm1 : m ≤ 101 := by
        have := List.length_filter_le (fun a : J => a.tn == x.tn) D
        rw [hm]; unfold ofT; omega
      have H14 : Hid (∀ W X N, LQ w W X pb D N → Calls Try.prog 14 #[.pointer (some ⟨pb, 0, none⟩), .string ⟨⟨x.tn⟩⟩] W fun e w' => ∃ p c, e = .returned (.slice p m c) ∧ Hid (WRow W.heap.size w' (.slice p m c) L1 ∧ Below W.heap.size W w')) := fun W X N h => by rw [hm, hL1]; exact l_list h x.tn
      have H11 : Hid (∀ W X N, LQ w W X pb D N → Calls Try.prog 11 #[.pointer (some ⟨pb, 0, none⟩)] W fun e w' => e = .returned (.int .i64 dn) ∧ w' = W) := fun W X N h => by rw [hdn]; exact l_len h
      have H12 : Hid (∀ W X N, N < 1048576 → LQ w W X pb D N → Calls Try.prog 12 #[.pointer (some ⟨pb, 0, none⟩), .agg #[.int .i64 x.job, .string ⟨⟨x.tn⟩⟩, .int .i64 x.pr]] W fun e w' => e = .returned (.int .i64 (pushD D x).1) ∧ Hid (LQ w w' X pb (pushD D x).2 (N + 1))) := fun W X N hN h => l_push h HX.out hN
      have hll : Hid (L1.length = m) := by rw [hL1, hm]; rfl
      obtain ⟨b0, b1, b2, b3⟩ := hD.box hX0.out
      clear hD HI HR hL1 hm
      go_upto_region 8 with fail
      go_upto_region 9 with (go_at_call 14; refine (H14.out _ _ _ HD.out).mono ?_; rintro e W1 ⟨p1, c1, rfl, h1⟩)
      -- TAIL
      obtain ⟨X1, hq1, hx1, hrow⟩ := HD.out.row h1.out.1 h1.out.2
      have HQ1 : Hid (LQ w W1 X1 pb D i) := hq1
      have HX1 : Hid (X1 w.heap.size = some (bxO x)) := hx1 _ _ b3 hX0.out
      obtain ⟨base, ROW⟩ : ∃ base, Hid (∀ V D' N', LQ w V X1 pb D' N' → WRow base V (.slice p1 m c1) L1) := ⟨_, hrow⟩
      clear HD h1 hq1 hx1 hrow b0 b1 b2 b3 hX0
      obtain ⟨b0, b1, b2, b3⟩ := HQ1.out.box HX1.out
      go_upto_region 10 with (go_at_call 11; refine (H11.out _ _ _ HQ1.out).mono ?_; rintro e w5 ⟨rfl, h5⟩; obtain rfl := h5.symm)
      go_upto_region 11 with (go_at_call 12; refine (H12.out _ _ _ (by omega) HQ1.out).mono ?_; rintro e W2 ⟨rfl, h2⟩)
      clear b0 b1 b2 b3 h5 HQ1
      by_cases hp : (pushD D x).1 = 0
      · have T : Hid (Took D x) := took SN.out.1 SN.out.2 hp
        rw [hp]
        have HQ2 : Hid (LQ w W2 X1 pb (iJ x D) (i + 1)) := by have := h2.out; rw [T.out.p] at this; exact this
        clear h2 hp SN
        have H18 : Hid (Calls Try.prog 18 #[.pointer (some ⟨pb, 0, none⟩), .int .i64 x.job] W2 fun e w' => e = .returned (.tuple #[.agg #[.int .i64 x.job, .string ⟨⟨x.tn⟩⟩, .int .i64 x.pr], .int .i64 0]) ∧ Hid (Below W2.heap.size W2 w')) := by
          have := l_get HQ2.out x.job T.out.wf
          rw [T.out.g] at this
          exact this
        have H11b : Hid (∀ W, LQ w W X1 pb (iJ x D) (i + 1) → Calls Try.prog 11 #[.pointer (some ⟨pb, 0, none⟩)] W fun e w' => e = .returned (.int .i64 ((dn : Int) + 1)) ∧ w' = W) := fun W h => by
          have := l_len h
          rw [T.out.n, ← hdn] at this
          simpa using this
        have H12b : Hid (∀ W, LQ w W X1 pb (iJ x D) (i + 1) → Calls Try.prog 12 #[.pointer (some ⟨pb, 0, none⟩), .agg #[.int .i64 x.job, .string ⟨⟨x.tn⟩⟩, .int .i64 x.pr]] W fun e w' => e = .returned (.int .i64 5) ∧ Hid (LQ w w' X1 pb (iJ x D) (i + 2))) := fun W h => by
          have := l_push h HX.out (by omega)
          rw [T.out.p2] at this
          exact this
        have H16a : Hid (∀ W, LQ w W X1 pb (iJ x D) (i + 2) → Calls Try.prog 16 #[.pointer (some ⟨pb, 0, none⟩), .int .i64 x.job] W fun e w' => e = .returned (.int .i64 0) ∧ Hid (LQ w w' X1 pb D (i + 2))) := fun W h => by
          have := l_rem h x.job T.out.wf
          rw [T.out.r] at this
          exact this
        have H16b : Hid (∀ W, LQ w W X1 pb D (i + 2) → Calls Try.prog 16 #[.pointer (some ⟨pb, 0, none⟩), .int .i64 x.job] W fun e w' => e = .returned (.int .i64 3) ∧ Hid (LQ w w' X1 pb D (i + 2))) := fun W h => by
          have := l_rem h x.job T.out.wf
          rw [T.out.r2] at this
          exact this
        obtain ⟨b0, b1, b2, b3⟩ := HQ2.out.box HX1.out
        go_upto_region 13 with (go_at_call 18; refine H18.out.mono ?_; rintro e w6 ⟨rfl, b6⟩)
        have HQ3 : Hid (LQ w (w6.alloc (.cells #[.int .i64 x.job, .string ⟨⟨x.tn⟩⟩, .int .i64 x.pr] 32)) X1 pb (iJ x D) (i + 1)) := HQ2.out.below (b6.out.alloc b6.out.size _)
        obtain ⟨n0, n1, n2⟩ := c3 (new0 (w := w6) (o := .cells #[.int .i64 x.job, .string ⟨⟨x.tn⟩⟩, .int .i64 x.pr] 32))
        have n3 : w6.heap.size < (w6.alloc (.cells #[.int .i64 x.job, .string ⟨⟨x.tn⟩⟩, .int .i64 x.pr] 32)).heap.size := by simp
        clear b0 b1 b2 b3 b6 H18 HQ2 T
        obtain ⟨b0, b1, b2, b3⟩ := HQ3.out.box HX1.out
        generalize w6.alloc (.cells #[.int .i64 x.job, .string ⟨⟨x.tn⟩⟩, .int .i64 x.pr] 32) = W3 at *
        generalize w6.heap.size = bb at *
        have q32 := eq32 x.job x.pr ⟨⟨x.tn⟩⟩
        go_upto_region 15 with (first
          | (go_at_call 11; refine (H11b.out _ HQ3.out).mono ?_; rintro e w7 ⟨rfl, h7⟩; obtain rfl := h7.symm)
          | (go_at_call 12; refine (H12b.out _ HQ3.out).mono ?_; rintro e wA ⟨rfl, hA⟩; obtain ⟨e0, e1, e2, e3⟩ := hA.out.box HX1.out)
          | (go_at_call 16; refine (H16b.out _ hB.out).mono ?_; rintro e wC ⟨rfl, hC⟩)
          | (go_at_call 16; refine (H16a.out _ hA.out).mono ?_; rintro e wB ⟨rfl, hB⟩; obtain ⟨f0, f1, f2, f3⟩ := hB.out.box HX1.out))
        clear b0 b1 b2 b3 e0 e1 e2 e3 f0 f1 f2 f3 n0 n1 n2 n3 hA hB h7 H11b H12b H16a H16b HQ3 q32
        obtain ⟨b0, b1, b2, b3⟩ := hC.out.box HX1.out
        go_upto_region 16 with (go_at_call 14; refine (H14.out _ _ _ hC.out).mono ?_; rintro e W5 ⟨p2, c2, rfl, h5⟩)
        have HQ5 : Hid (LQ w W5 X1 pb D _) := hC.out.below h5.out.2
        have R1 : Hid (WRow base W5 (.slice p1 m c1) L1) := ROW.out _ _ _ HQ5.out
        obtain ⟨base2, R2⟩ : ∃ base2, Hid (WRow base2 W5 (.slice p2 m c2) L1) := ⟨_, h5.out.1⟩
        clear b0 b1 b2 b3 h5 hC ROW
        go_upto_region 18 with (go_at_call 11; refine (H11.out _ _ _ HQ5.out).mono ?_; rintro e w8 ⟨rfl, h8⟩; obtain rfl := h8.symm)
        have hE : Hid (Below w.heap.size w W5) := HQ5.out.bel
        clear HQ5 H11 H14 H12 HX1
        go_wp2_with fail
        go_loopw [13] (fun x wr => ∃ k : Nat, x = .int .i64 k ∧ k ≤ m ∧ Hid (Below W5.heap.size W5 wr)) (fun x _ => m - (intOf x).toNat)
        case atStart => exact ⟨0, rfl, Nat.zero_le _, Below.refl _ _⟩
        case round =>
          obtain ⟨k, rfl, hk, HK⟩ := hrel
          by_cases hkm : k < m
          · obtain ⟨a, ha⟩ : ∃ a, L1[k]? = some a := ⟨_, List.getElem?_eq_getElem (by have := hll.out; omega)⟩
            obtain ⟨g1, rfl, hg1⟩ := R1.out.at wC_len ha
            obtain ⟨g2, rfl, hg2⟩ := R2.out.at wC_len ha
            have y0 := keep1c' HK.out (hg1 0 _ rfl)
            have y1 := keep1c' HK.out (hg1 1 _ rfl)
            have y2 := keep1c' HK.out (hg1 2 _ rfl)
            have z0 := keep1c' HK.out (hg2 0 _ rfl)
            have z1 := keep1c' HK.out (hg2 1 _ rfl)
            have z2 := keep1c' HK.out (hg2 2 _ rfl)
            simp only [Nat.add_zero] at y0 y1 y2 z0 z1 z2
            have k1 : (k : Int) < (m : Int) := by omega
            have k2 : decide ((k : Int) < (m : Int)) = true := decide_eq_true k1
            have q32 := eq32 a.job a.pr ⟨⟨a.tn⟩⟩
            clear ha hg1 hg2 R1 R2
            obtain ⟨aj, atn, ap⟩ := a
            simp only [] at y0 y1 y2 z0 z1 z2 q32
            go_upto_region 21 with fail
            go_region
            go_wp2_with fail
            exact ⟨⟨k + 1, by simp, hkm, below_drewN HK.out 1⟩, by simp [intOf]; omega⟩
          · have k1 : ¬ (k : Int) < (m : Int) := by omega
            have k2 : decide ((k : Int) < (m : Int)) = false := decide_eq_false k1
            go_wp2_with fail
            go_ret
            exact ⟨rfl, hE.out.trans (HK.out.mono hE.out.size)⟩
      · have HQ2 : Hid (LQ w W2 X1 pb D (i + 1)) := by have := h2.out; rw [took_not hp] at this; exact this
        have hp2 : ((pushD D x).1 == 0) = false := by simpa using hp
        have hp3 : decide ((pushD D x).1 = 0) = false := decide_eq_false hp
        clear h2 SN
        generalize (pushD D x).1 = r at *
        go_upto_region 15 with fail
        clear hp hp2 hp3
        obtain ⟨b0, b1, b2, b3⟩ := HQ2.out.box HX1.out
        go_upto_region 16 with (go_at_call 14; refine (H14.out _ _ _ HQ2.out).mono ?_; rintro e W5 ⟨p2, c2, rfl, h5⟩)
        have HQ5 : Hid (LQ w W5 X1 pb D _) := HQ2.out.below h5.out.2
        have R1 : Hid (WRow base W5 (.slice p1 m c1) L1) := ROW.out _ _ _ HQ5.out
        obtain ⟨base2, R2⟩ : ∃ base2, Hid (WRow base2 W5 (.slice p2 m c2) L1) := ⟨_, h5.out.1⟩
        clear b0 b1 b2 b3 h5 HQ2 ROW
        go_upto_region 18 with (go_at_call 11; refine (H11.out _ _ _ HQ5.out).mono ?_; rintro e w8 ⟨rfl, h8⟩; obtain rfl := h8.symm)
        have hE : Hid (Below w.heap.size w W5) := HQ5.out.bel
        clear HQ5 H11 H14 H12 HX1
        go_wp2_with fail
        go_loopw [13] (fun x wr => ∃ k : Nat, x = .int .i64 k ∧ k ≤ m ∧ Hid (Below W5.heap.size W5 wr)) (fun x _ => m - (intOf x).toNat)
        case atStart => exact ⟨0, rfl, Nat.zero_le _, Below.refl _ _⟩
        case round =>
          obtain ⟨k, rfl, hk, HK⟩ := hrel
          by_cases hkm : k < m
          · obtain ⟨a, ha⟩ : ∃ a, L1[k]? = some a := ⟨_, List.getElem?_eq_getElem (by have := hll.out; omega)⟩
            obtain ⟨g1, rfl, hg1⟩ := R1.out.at wC_len ha
            obtain ⟨g2, rfl, hg2⟩ := R2.out.at wC_len ha
            have y0 := keep1c' HK.out (hg1 0 _ rfl)
            have y1 := keep1c' HK.out (hg1 1 _ rfl)
            have y2 := keep1c' HK.out (hg1 2 _ rfl)
            have z0 := keep1c' HK.out (hg2 0 _ rfl)
            have z1 := keep1c' HK.out (hg2 1 _ rfl)
            have z2 := keep1c' HK.out (hg2 2 _ rfl)
            simp only [Nat.add_zero] at y0 y1 y2 z0 z1 z2
            have k1 : (k : Int) < (m : Int) := by omega
            have k2 : decide ((k : Int) < (m : Int)) = true := decide_eq_true k1
            have q32 := eq32 a.job a.pr ⟨⟨a.tn⟩⟩
            clear ha hg1 hg2 R1 R2
            obtain ⟨aj, atn, ap⟩ := a
            simp only [] at y0 y1 y2 z0 z1 z2 q32
            go_upto_region 21 with fail
            go_region
            go_wp2_with fail
            exact ⟨⟨k + 1, by simp, hkm, below_drewN HK.out 1⟩, by simp [intOf]; omega⟩
          · have k1 : ¬ (k : Int) < (m : Int) := by omega
            have k2 : decide ((k : Int) < (m : Int)) = false := decide_eq_false k1
            go_wp2_with fail
            go_ret
            exact ⟨rfl, hE.out.trans (HK.out.mono hE.out.size)⟩
end Go.Proofs.Ythlbeofonbbbdaa
