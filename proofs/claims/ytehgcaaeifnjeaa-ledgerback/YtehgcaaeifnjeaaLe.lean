/-
  LedgerHolds' law.
-/
import Derived.Test.YtehgcaaeifnjeaaLd
namespace Go.Proofs.Ytehgcaaeifnjeaa
open Go.RowKit Go.Maps Go.WideMaps Go.Sort

theorem grown {W : World} {f : FuncId} {args : Array Value} {v : Value} (H : Hid (∀ w, Below W.heap.size W w → Calls Try.prog f args w fun e w' => e = .returned v ∧ Below w.heap.size w w')) :
    Hid (∀ d os, Calls Try.prog f args (grow (redrawn W d) os) fun e w'' => e = .returned v ∧ ∃ p : Regrown, w'' = grow (redrawn W p.d) p.os) := fun d os => Calls.regrown_of (H.out _ (below_regrown W d os))
/-- vectors as they lie -/
def VR (w : World) (q : Option Addr) (L : List V) : Prop := ∀ (i : Nat) (v : V), L[i]? = some v → ∃ g a, q = some ⟨g, a, none⟩ ∧ VRow w g a L
theorem VR.at {w w1 : World} {q : Option Addr} {L : List V} (h : VR w q L) (b : Below w.heap.size w w1) {i : Nat} {v : V} (hi : L[i]? = some v) : ∃ g a, q = some ⟨g, a, none⟩ ∧ w1.cell? ⟨g, a + i * 4, none⟩ = some (.int .i64 v.a) ∧ w1.cell? ⟨g, a + i * 4 + 1, none⟩ = some (.int .i64 v.b) ∧ w1.cell? ⟨g, a + i * 4 + 2, none⟩ = some (.int .i64 v.c) ∧ w1.cell? ⟨g, a + i * 4 + 3, none⟩ = some (.int .i64 v.d) := by
  obtain ⟨g, a, e, hr⟩ := h i v hi
  obtain ⟨h0, h1, h2, h3⟩ := hr i v hi
  exact ⟨g, a, e, cell_below h0 b, cell_below h1 b, cell_below h2 b, cell_below h3 b⟩
/-- the ledger in the law -/
def HS (w wr : World) (pb : Nat) (LM : List V) (i : Nat) : Prop := ∃ D, LL w wr NX pb D ∧ Hl LM i D
theorem HS.below {w wr w1 : World} {pb : Nat} {LM : List V} {i : Nat} (h : HS w wr pb LM i) (b : Below wr.heap.size wr w1) : HS w w1 pb LM i := by
  obtain ⟨D, h1, h2⟩ := h
  exact ⟨D, h1.below b, h2⟩
theorem HS.open {w wr : World} {pb : Nat} {LM : List V} {i : Nat} {v : V} (h : HS w wr pb LM i) (hi : i < 20) (hv : LM[i]? = some v) : Calls Try.prog 18 #[.pointer (some ⟨pb, 0, none⟩), .string (nmB i), .agg #[.int .i64 v.a, .int .i64 v.b, .int .i64 v.c, .int .i64 v.d]] wr fun e w' => (∃ c : Int, e = .returned (.int .i64 c)) ∧ Hid (HS w w' pb LM (i + 1)) := by
  obtain ⟨D, h1, h2⟩ := h
  refine (l_open h1 (nmB i) (nm_size i) v).mono ?_
  rintro e w' ⟨rfl, hl⟩
  have := h2.open hi hv
  rw [← nmI_eq] at this
  exact ⟨⟨_, rfl⟩, _, hl.out, this⟩
theorem HS.take {w wr : World} {pb : Nat} {LM : List V} {i : Nat} (h : HS w wr pb LM i) (s : Option Addr) (es : List E) (c : Nat) (hr : ERow wr s es) (hz : Zs es) : Calls Try.prog 19 #[.pointer (some ⟨pb, 0, none⟩), .slice s es.length c] wr fun e w' => (∃ c : Int, e = .returned (.int .i64 c)) ∧ Hid (HS w w' pb LM i) := by
  obtain ⟨D, h1, h2⟩ := h
  refine (l_take h1 s es c (by have := hz.2; omega) hr hz.1).mono ?_
  rintro e w' ⟨rfl, hl⟩
  exact ⟨⟨_, rfl⟩, _, hl.out, h2.take es⟩
theorem HS.give {w wr : World} {pb : Nat} {LM : List V} {i : Nat} (h : HS w wr pb LM i) (s : Option Addr) (es : List E) (c : Nat) (hr : ERow wr s es) (hz : Zs es) : Calls Try.prog 20 #[.pointer (some ⟨pb, 0, none⟩), .slice s es.length c] wr fun e w' => (∃ c : Int, e = .returned (.int .i64 c)) ∧ Hid (HS w w' pb LM i) := by
  obtain ⟨D, h1, h2⟩ := h
  refine (l_give h1 s es c (by have := hz.2; omega) hr hz.1).mono ?_
  rintro e w' ⟨rfl, hl⟩
  exact ⟨⟨_, rfl⟩, _, hl.out, h2.give es⟩
theorem HS.used {w wr : World} {pb : Nat} {LM : List V} {i k : Nat} {v : V} (h : HS w wr pb LM i) (hk : k < i) (hv : LM[k]? = some v) : ∃ us : V, (v.ok = true → us.le v = true ∧ us.ok = true) ∧ Calls Try.prog 14 #[.pointer (some ⟨pb, 0, none⟩), .string (nmB k)] wr fun e w' => e = .returned (.tuple #[.agg #[.int .i64 us.a, .int .i64 us.b, .int .i64 us.c, .int .i64 us.d], .int .i64 (if v.ok then 0 else 3)]) ∧ Hid (HS w w' pb LM i) := by
  obtain ⟨D, h1, h2⟩ := h
  obtain ⟨us, h3, h4⟩ := h2.used hk hv
  refine ⟨us, fun ho => ⟨(h4 ho).1, ?_⟩, ?_⟩
  · obtain ⟨a, ha, rfl⟩ := (h4 ho).2
    obtain ⟨S, hS, _⟩ := h1.led
    exact (hS.ok a ha).2
  · refine (l_used h1 (nmB k) (nm_size k)).mono ?_
    rintro e w' ⟨rfl, hl⟩
    rw [nmI_eq, h3]
    refine ⟨?_, D, hl.out, h2⟩
    unfold ansV
    cases v.ok <;> rfl
set_option maxHeartbeats 8000000 in
set_option maxRecDepth 100000 in
theorem holds_law (q : Option Addr) (n c : Nat) (L : List V) (q2 : Option Addr) (n2 c2 : Nat) (L2 : List Opr) (w : World) (hn : n = L.length) (hn2 : n2 = L2.length) (hr : VR w q L) (hs : Scr w q2 L2) (hz : ∀ o ∈ L2, o.nm.size ≤ 281474976710656 ∧ Zs o.es) (hm : n ≤ 9223372036854775807) (hm2 : n2 ≤ 9223372036854775807) :
    Calls Try.prog 4 #[.slice q n c, .slice q2 n2 c2] w fun e w' => e = .returned (.bool true) ∧ Below w.heap.size w w' := by
  have HA : Hid (∀ W, Below w.heap.size w W → Calls Try.prog 9 #[] W fun e w' => e = .returned (.bool true) ∧ Hid (Below w.heap.size w w')) := fun W b => (awake_any w W NX b (fun k o h => by cases h)).mono fun e w' ⟨he, hb⟩ => ⟨he, hb.out.1⟩
  have HN : Hid (∀ W, Below w.heap.size w W → Calls Try.prog 11 #[] W fun e w' => ∃ pb, e = .returned (.pointer (some ⟨pb, 0, none⟩)) ∧ Hid (HS w w' pb L 0)) := fun W b => (new_any W).mono fun e w' ⟨he, hw⟩ => ⟨_, he, [], by rw [hw]; exact l_new w W NX b (fun k o h => by cases h), Hl.nil L⟩
  have HF : Hid (∀ W, Below w.heap.size w W → Calls Try.prog 10 #[.slice q2 n2 c2] W fun e w' => e = .returned (.bool (fewN 0 L2)) ∧ w' = W) := fun W b => few_any W q2 n2 c2 L2 hn2 (hs.below b) (fun o ho => (hz o ho).2.2) hm2
  have HR : Hid (VR w q L ∧ n = L.length) := ⟨hr, hn⟩
  have HSc : Hid (Scr w q2 L2 ∧ n2 = L2.length) := ⟨hs, hn2⟩
  have HZ : Hid (∀ o ∈ L2, o.nm.size ≤ 281474976710656 ∧ Zs o.es) := hz
  clear hr hs hz hn hn2
  obtain ⟨b0, hb0⟩ : ∃ b0, b0 = fewN 0 L2 := ⟨_, rfl⟩
  rw [← hb0] at HF
  have HB0 : Hid (b0 = fewN 0 L2) := hb0
  clear hb0
  cases b0
  · clear HN HR HSc HZ
    go_enter Try.func4, Try.ntmps4
    go_wp2_with (first | (go_at_call 9; refine (HA.out _ (Below.refl _ _)).mono ?_; rintro e w1 ⟨rfl, b1⟩) | (go_at_call 10; refine (HF.out _ b1.out).mono ?_; rintro e w2 ⟨rfl, h2⟩; obtain rfl := h2.symm))
    refine (HA.out _ b1.out).mono ?_
    first | rintro e w3 rfl b3 | rintro e w3 ⟨rfl, b3⟩
    go_wp2_with fail
    go_ret
    exact ⟨rfl, b3.out⟩
  · obtain ⟨hL2, hE2⟩ := few_yes HB0.out.symm
    have HE2 : Hid (∀ o ∈ L2, o.es.length ≤ 2000) := hE2
    have hL3 : n2 ≤ 400 := by have := HSc.out.2; omega
    clear hL2 hE2 HB0 hm2
    by_cases h20 : 20 < n
    · have g1 : (20 : Int) < (n : Int) := by omega
      have g2 : decide ((20 : Int) < (n : Int)) = true := decide_eq_true g1
      clear HN HR HSc HZ HE2
      go_enter Try.func4, Try.ntmps4
      go_wp2_with (first | (go_at_call 9; refine (HA.out _ (Below.refl _ _)).mono ?_; rintro e w1 ⟨rfl, b1⟩) | (go_at_call 10; refine (HF.out _ b1.out).mono ?_; rintro e w2 ⟨rfl, h2⟩; obtain rfl := h2.symm))
      refine (HA.out _ b1.out).mono ?_
      first | rintro e w3 rfl b3 | rintro e w3 ⟨rfl, b3⟩
      go_wp2_with fail
      go_ret
      exact ⟨rfl, b3.out⟩
    · have g1 : ¬ (20 : Int) < (n : Int) := by omega
      have g2 : decide ((20 : Int) < (n : Int)) = false := decide_eq_false g1
      have h20' : n ≤ 20 := by omega
      clear hm
      go_enter Try.func4, Try.ntmps4
      go_upto_region 3 with (first | (go_at_call 9; refine (HA.out _ (Below.refl _ _)).mono ?_; rintro e w1 ⟨rfl, b1⟩) | (go_at_call 10; refine (HF.out _ b1.out).mono ?_; rintro e w2 ⟨rfl, h2⟩; obtain rfl := h2.symm))
      clear HA HF
      go_upto_region 4 with (go_at_call 11; refine (HN.out _ b1.out).mono ?_; rintro e W0 ⟨pb, rfl, h3⟩)
      clear HN b1 h20 g2
      go_wp2_with fail
      go_loopw [6] (fun x wr => ∃ i : Nat, x = .int .i64 i ∧ i ≤ n ∧ Hid (HS w wr pb L i)) (fun x _ => n - (intOf x).toNat)
      case atStart => exact ⟨0, rfl, Nat.zero_le _, h3.out⟩
      case round =>
        obtain ⟨i, rfl, hin, HI⟩ := hrel
        clear h3
        by_cases hi : i < n
        · have i1 : (i : Int) < (n : Int) := by omega
          have i2 : decide ((i : Int) < (n : Int)) = true := decide_eq_true i1
          have i3 : (i : Int) < 20 := by omega
          obtain ⟨v, hv⟩ : ∃ v, L[i]? = some v := ⟨_, List.getElem?_eq_getElem (by have := HR.out.2; omega)⟩
          have hbel : Below w.heap.size w wr := by obtain ⟨D, h1, _⟩ := HI.out; exact h1.bel
          obtain ⟨g, a, rfl, c0, c1, c2', c3⟩ := HR.out.1.at hbel hv
          have H18 : Hid (Calls Try.prog 18 #[.pointer (some ⟨pb, 0, none⟩), .string (nmB i), .agg #[.int .i64 v.a, .int .i64 v.b, .int .i64 v.c, .int .i64 v.d]] wr fun e w' => (∃ c : Int, e = .returned (.int .i64 c)) ∧ Hid (HS w w' pb L (i + 1))) := HI.out.open (by omega) hv
          have hcv := nm_conv (i := i) (by omega)
          have h32 : IntKind.i32.wrap (97 + (i : Int)) = 97 + (i : Int) := by rw [IntKind.wrap_i32]; omega
          generalize nmB i = nb at *
          clear hbel hv
          go_wp2_with (go_at_call 18; refine H18.out.mono ?_; rintro e w4 ⟨⟨cc, rfl⟩, h4⟩)
          exact ⟨⟨i + 1, by simp, by omega, h4.out⟩, by simp only [intOf]; omega⟩
        · have i1 : ¬ (i : Int) < (n : Int) := by omega
          have i2 : decide ((i : Int) < (n : Int)) = false := decide_eq_false i1
          have hie : i = n := by omega
          subst hie
          go_wp2_with fail
          clear i1 i2 hi hin
          go_loopw [7] (fun x wr => ∃ j : Nat, x = .int .i64 j ∧ j ≤ n2 ∧ Hid (HS w wr pb L i)) (fun x _ => n2 - (intOf x).toNat)
          case atStart => exact ⟨0, rfl, Nat.zero_le _, HI.out⟩
          case round =>
            obtain ⟨j, rfl, hjn, HJ⟩ := hrel
            clear HI
            by_cases hj : j < n2
            · have j1 : (j : Int) < (n2 : Int) := by omega
              have j2 : decide ((j : Int) < (n2 : Int)) = true := decide_eq_true j1
              obtain ⟨o, ho⟩ : ∃ o, L2[j]? = some o := ⟨_, List.getElem?_eq_getElem (by have := HSc.out.2; omega)⟩
              have hbel : Below w.heap.size w wr := by obtain ⟨D, h1, _⟩ := HJ.out; exact h1.bel
              obtain ⟨⟨g, f, rfl, s0, -, -, -, -, -, s6⟩, hre, -⟩ := (HSc.out.1.below hbel) j o ho
              have hzo := HZ.out o (List.mem_of_getElem? ho)
              have H19 : Hid (Calls Try.prog 19 #[.pointer (some ⟨pb, 0, none⟩), .slice o.q o.es.length o.c] wr fun e w' => (∃ c : Int, e = .returned (.int .i64 c)) ∧ Hid (HS w w' pb L i)) := HJ.out.take o.q o.es o.c hre hzo.2
              have H20 : Hid (Calls Try.prog 20 #[.pointer (some ⟨pb, 0, none⟩), .slice o.q o.es.length o.c] wr fun e w' => (∃ c : Int, e = .returned (.int .i64 c)) ∧ Hid (HS w w' pb L i)) := HJ.out.give o.q o.es o.c hre hzo.2
              clear hbel hre hzo ho
              generalize o.k = kd at *
              by_cases hk5 : kd = 5
              · subst hk5
                go_upto_region 16 with (go_at_call 19; refine H19.out.mono ?_; rintro e w5 ⟨⟨cc, rfl⟩, h5⟩)
                clear H19 H20 s0 s6 HJ
                generalize hnn : i = n at *
                go_wp2_with fail
                go_loopw [8] (fun x wr => ∃ k : Nat, x = .int .i64 k ∧ k ≤ n ∧ Hid (HS w wr pb L n)) (fun x _ => n - (intOf x).toNat)
                case atStart => exact ⟨0, rfl, Nat.zero_le _, h5.out⟩
                case round =>
                  obtain ⟨k, rfl, hkn, HK⟩ := hrel
                  clear h5
                  by_cases hk : k < n
                  · have k1 : (k : Int) < (n : Int) := by omega
                    have k2 : decide ((k : Int) < (n : Int)) = true := decide_eq_true k1
                    have k3 : (k : Int) < 20 := by omega
                    have k4 : (0 : Int) ≤ (k : Int) := by omega
                    obtain ⟨v, hv⟩ : ∃ v, L[k]? = some v := ⟨_, List.getElem?_eq_getElem (by have := HR.out.2; omega)⟩
                    obtain ⟨us, hus, H14'⟩ := HK.out.used hk hv
                    have H14 : Hid (Calls Try.prog 14 #[.pointer (some ⟨pb, 0, none⟩), .string (nmB k)] wr fun e w' => e = .returned (.tuple #[.agg #[.int .i64 us.a, .int .i64 us.b, .int .i64 us.c, .int .i64 us.d], .int .i64 (if v.ok then 0 else 3)]) ∧ Hid (HS w w' pb L n)) := H14'
                    have HUS : Hid (v.ok = true → us.le v = true ∧ us.ok = true) := hus
                    have HV : Hid (L[k]? = some v) := hv
                    have hcv := nm_conv (i := k) (by omega)
                    have h32 : IntKind.i32.wrap (97 + (k : Int)) = 97 + (k : Int) := by rw [IntKind.wrap_i32]; omega
                    generalize nmB k = nb at *
                    clear H14' hus hv
                    cases hvo : v.ok
                    · rw [hvo, if_neg (by decide)] at H14
                      have HVO : Hid (v.ok = false) := hvo
                      clear hvo HUS
                      go_upto_region 20 with (go_at_call 14; refine H14.out.mono ?_; rintro e w6 ⟨rfl, h6⟩)
                      have h7 : Hid (HS w (w6.alloc (.cells #[.int .i64 us.a, .int .i64 us.b, .int .i64 us.c, .int .i64 us.d] 33 (0, 0))) pb L n) := h6.out.below ((Below.refl _ _).alloc (Nat.le_refl _) _)
                      clear h6 H14 hcv h32
                      generalize w6.alloc (.cells #[.int .i64 us.a, .int .i64 us.b, .int .i64 us.c, .int .i64 us.d] 33 (0, 0)) = W7 at *
                      generalize w6.heap.size = g9 at *
                      have hbel : Below w.heap.size w W7 := by obtain ⟨D, h1, _⟩ := h7.out; exact h1.bel
                      obtain ⟨g, a, rfl, c0, c1, c2', c3⟩ := HR.out.1.at hbel HV.out
                      have m0 := cell_regrown c0
                      have m1 := cell_regrown c1
                      have m2 := cell_regrown c2'
                      have m3 := cell_regrown c3
                      have H21 : Hid (∀ W, Below W7.heap.size W7 W → Calls Try.prog 21 #[.agg #[.int .i64 v.a, .int .i64 v.b, .int .i64 v.c, .int .i64 v.d]] W fun e w' => e = .returned (.bool false) ∧ Below W.heap.size W w') := fun W _ => by
                        have := rformed_any v.a v.b v.c v.d W
                        rw [show fm v.a v.b v.c v.d = false from HVO.out] at this
                        exact this
                      have G21 := grown H21
                      clear H21 hbel HVO
                      refine wp_region_quiet_below (by kernel_rfl) (by kernel_rfl) ?_
                      repeat (first | go_big_quiet_step ((go_at_call 21; exact G21.out _ _)) | quiet_step ((go_at_call 21; exact G21.out _ _)))
                      refine wpQuiet_nil ?_
                      intro _ hw'
                      obtain ⟨⟨dq, osq⟩, hw''⟩ := hw'
                      subst hw''
                      have h8 : Hid (HS w (grow (redrawn W7 dq) osq) pb L n) := h7.out.below (below_regrown W7 dq osq)
                      clear m0 m1 m2 m3 c0 c1 c2' c3 G21 h7
                      generalize grow (redrawn W7 dq) osq = W8 at *
                      go_wp2_with fail
                      exact ⟨⟨k + 1, by simp, by omega, h8.out⟩, by simp only [intOf]; omega⟩
                    · rw [hvo, if_pos rfl] at H14
                      have HVO : Hid (v.ok = true ∧ us.le v = true ∧ us.ok = true) := ⟨hvo, HUS.out hvo⟩
                      clear hvo HUS
                      go_upto_region 20 with (go_at_call 14; refine H14.out.mono ?_; rintro e w6 ⟨rfl, h6⟩)
                      have h7 : Hid (HS w (w6.alloc (.cells #[.int .i64 us.a, .int .i64 us.b, .int .i64 us.c, .int .i64 us.d] 33 (0, 0))) pb L n) := h6.out.below ((Below.refl _ _).alloc (Nat.le_refl _) _)
                      obtain ⟨d0, d1, d2, d3, -⟩ := cells4 (new0 (w := w6) (o := .cells #[.int .i64 us.a, .int .i64 us.b, .int .i64 us.c, .int .i64 us.d] 33 (0, 0)))
                      clear h6 H14 hcv h32
                      generalize w6.alloc (.cells #[.int .i64 us.a, .int .i64 us.b, .int .i64 us.c, .int .i64 us.d] 33 (0, 0)) = W7 at *
                      generalize w6.heap.size = g9 at *
                      have hbel : Below w.heap.size w W7 := by obtain ⟨D, h1, _⟩ := h7.out; exact h1.bel
                      obtain ⟨g, a, rfl, c0, c1, c2', c3⟩ := HR.out.1.at hbel HV.out
                      have m0 := cell_regrown c0
                      have m1 := cell_regrown c1
                      have m2 := cell_regrown c2'
                      have m3 := cell_regrown c3
                      have l0 := cell_regrown d0
                      have l1 := cell_regrown d1
                      have l2 := cell_regrown d2
                      have l3 := cell_regrown d3
                      have HV1 : Hid (fm v.a v.b v.c v.d = true) := HVO.out.1
                      have HU1 : Hid (fm us.a us.b us.c us.d = true) := HVO.out.2.2
                      have G21 : Hid (∀ (a b c d : Int) (_ : Hid (fm a b c d = true)) dd os, Calls Try.prog 21 #[.agg #[.int .i64 a, .int .i64 b, .int .i64 c, .int .i64 d]] (grow (redrawn W7 dd) os) fun e w'' => e = .returned (.bool true) ∧ ∃ p : Regrown, w'' = grow (redrawn W7 p.d) p.os) := fun a b c d ha dd os => (grown (W := W7) (v := .bool true) (fun W _ => by
                        have := rformed_any a b c d W
                        rw [ha.out] at this
                        exact this)).out dd os
                      have G22 : Hid (∀ dd os, Calls Try.prog 22 #[.agg #[.int .i64 us.a, .int .i64 us.b, .int .i64 us.c, .int .i64 us.d], .agg #[.int .i64 v.a, .int .i64 v.b, .int .i64 v.c, .int .i64 v.d]] (grow (redrawn W7 dd) os) fun e w'' => e = .returned (.bool true) ∧ ∃ p : Regrown, w'' = grow (redrawn W7 p.d) p.os) := grown (W := W7) (v := .bool true) (fun W _ => by
                        have := rfits_any us.a us.b us.c us.d v.a v.b v.c v.d W
                        rw [show ft us.a us.b us.c us.d v.a v.b v.c v.d = true from HVO.out.2.1] at this
                        exact this)
                      clear hbel HVO
                      refine wp_region_quiet_below (by kernel_rfl) (by kernel_rfl) ?_
                      repeat (first | go_big_quiet_step (first | (go_at_call 21; exact G21.out _ _ _ _ (by assumption) _ _) | (go_at_call 22; exact G22.out _ _)) | quiet_step (first | (go_at_call 21; exact G21.out _ _ _ _ (by assumption) _ _) | (go_at_call 22; exact G22.out _ _)))
                      refine wpQuiet_nil ?_
                      intro _ hw'
                      obtain ⟨⟨dq, osq⟩, hw''⟩ := hw'
                      subst hw''
                      have h8 : Hid (HS w (grow (redrawn W7 dq) osq) pb L n) := h7.out.below (below_regrown W7 dq osq)
                      clear m0 m1 m2 m3 c0 c1 c2' c3 l0 l1 l2 l3 d0 d1 d2 d3 G21 G22 h7
                      generalize grow (redrawn W7 dq) osq = W8 at *
                      go_wp2_with fail
                      exact ⟨⟨k + 1, by simp, by omega, h8.out⟩, by simp only [intOf]; omega⟩
                  · have k1 : ¬ (k : Int) < (n : Int) := by omega
                    have k2 : decide ((k : Int) < (n : Int)) = false := decide_eq_false k1
                    go_wp2_with fail
                    exact ⟨⟨j + 1, by simp, by omega⟩, by simp only [intOf]; omega⟩
              · have k5 : (kd == 5) = false := by simpa using hk5
                by_cases hk6 : kd = 6
                · subst hk6
                  go_upto_region 16 with (go_at_call 20; refine H20.out.mono ?_; rintro e w5 ⟨⟨cc, rfl⟩, h5⟩)
                  clear H19 H20 s0 s6 HJ
                  generalize hnn : i = n at *
                  go_wp2_with fail
                  go_loopw [8] (fun x wr => ∃ k : Nat, x = .int .i64 k ∧ k ≤ n ∧ Hid (HS w wr pb L n)) (fun x _ => n - (intOf x).toNat)
                  case atStart => exact ⟨0, rfl, Nat.zero_le _, h5.out⟩
                  case round =>
                    obtain ⟨k, rfl, hkn, HK⟩ := hrel
                    clear h5
                    by_cases hk : k < n
                    · have k1 : (k : Int) < (n : Int) := by omega
                      have k2 : decide ((k : Int) < (n : Int)) = true := decide_eq_true k1
                      have k3 : (k : Int) < 20 := by omega
                      have k4 : (0 : Int) ≤ (k : Int) := by omega
                      obtain ⟨v, hv⟩ : ∃ v, L[k]? = some v := ⟨_, List.getElem?_eq_getElem (by have := HR.out.2; omega)⟩
                      obtain ⟨us, hus, H14'⟩ := HK.out.used hk hv
                      have H14 : Hid (Calls Try.prog 14 #[.pointer (some ⟨pb, 0, none⟩), .string (nmB k)] wr fun e w' => e = .returned (.tuple #[.agg #[.int .i64 us.a, .int .i64 us.b, .int .i64 us.c, .int .i64 us.d], .int .i64 (if v.ok then 0 else 3)]) ∧ Hid (HS w w' pb L n)) := H14'
                      have HUS : Hid (v.ok = true → us.le v = true ∧ us.ok = true) := hus
                      have HV : Hid (L[k]? = some v) := hv
                      have hcv := nm_conv (i := k) (by omega)
                      have h32 : IntKind.i32.wrap (97 + (k : Int)) = 97 + (k : Int) := by rw [IntKind.wrap_i32]; omega
                      generalize nmB k = nb at *
                      clear H14' hus hv
                      cases hvo : v.ok
                      · rw [hvo, if_neg (by decide)] at H14
                        have HVO : Hid (v.ok = false) := hvo
                        clear hvo HUS
                        go_upto_region 20 with (go_at_call 14; refine H14.out.mono ?_; rintro e w6 ⟨rfl, h6⟩)
                        have h7 : Hid (HS w (w6.alloc (.cells #[.int .i64 us.a, .int .i64 us.b, .int .i64 us.c, .int .i64 us.d] 33 (0, 0))) pb L n) := h6.out.below ((Below.refl _ _).alloc (Nat.le_refl _) _)
                        clear h6 H14 hcv h32
                        generalize w6.alloc (.cells #[.int .i64 us.a, .int .i64 us.b, .int .i64 us.c, .int .i64 us.d] 33 (0, 0)) = W7 at *
                        generalize w6.heap.size = g9 at *
                        have hbel : Below w.heap.size w W7 := by obtain ⟨D, h1, _⟩ := h7.out; exact h1.bel
                        obtain ⟨g, a, rfl, c0, c1, c2', c3⟩ := HR.out.1.at hbel HV.out
                        have m0 := cell_regrown c0
                        have m1 := cell_regrown c1
                        have m2 := cell_regrown c2'
                        have m3 := cell_regrown c3
                        have H21 : Hid (∀ W, Below W7.heap.size W7 W → Calls Try.prog 21 #[.agg #[.int .i64 v.a, .int .i64 v.b, .int .i64 v.c, .int .i64 v.d]] W fun e w' => e = .returned (.bool false) ∧ Below W.heap.size W w') := fun W _ => by
                          have := rformed_any v.a v.b v.c v.d W
                          rw [show fm v.a v.b v.c v.d = false from HVO.out] at this
                          exact this
                        have G21 := grown H21
                        clear H21 hbel HVO
                        refine wp_region_quiet_below (by kernel_rfl) (by kernel_rfl) ?_
                        repeat (first | go_big_quiet_step ((go_at_call 21; exact G21.out _ _)) | quiet_step ((go_at_call 21; exact G21.out _ _)))
                        refine wpQuiet_nil ?_
                        intro _ hw'
                        obtain ⟨⟨dq, osq⟩, hw''⟩ := hw'
                        subst hw''
                        have h8 : Hid (HS w (grow (redrawn W7 dq) osq) pb L n) := h7.out.below (below_regrown W7 dq osq)
                        clear m0 m1 m2 m3 c0 c1 c2' c3 G21 h7
                        generalize grow (redrawn W7 dq) osq = W8 at *
                        go_wp2_with fail
                        exact ⟨⟨k + 1, by simp, by omega, h8.out⟩, by simp only [intOf]; omega⟩
                      · rw [hvo, if_pos rfl] at H14
                        have HVO : Hid (v.ok = true ∧ us.le v = true ∧ us.ok = true) := ⟨hvo, HUS.out hvo⟩
                        clear hvo HUS
                        go_upto_region 20 with (go_at_call 14; refine H14.out.mono ?_; rintro e w6 ⟨rfl, h6⟩)
                        have h7 : Hid (HS w (w6.alloc (.cells #[.int .i64 us.a, .int .i64 us.b, .int .i64 us.c, .int .i64 us.d] 33 (0, 0))) pb L n) := h6.out.below ((Below.refl _ _).alloc (Nat.le_refl _) _)
                        obtain ⟨d0, d1, d2, d3, -⟩ := cells4 (new0 (w := w6) (o := .cells #[.int .i64 us.a, .int .i64 us.b, .int .i64 us.c, .int .i64 us.d] 33 (0, 0)))
                        clear h6 H14 hcv h32
                        generalize w6.alloc (.cells #[.int .i64 us.a, .int .i64 us.b, .int .i64 us.c, .int .i64 us.d] 33 (0, 0)) = W7 at *
                        generalize w6.heap.size = g9 at *
                        have hbel : Below w.heap.size w W7 := by obtain ⟨D, h1, _⟩ := h7.out; exact h1.bel
                        obtain ⟨g, a, rfl, c0, c1, c2', c3⟩ := HR.out.1.at hbel HV.out
                        have m0 := cell_regrown c0
                        have m1 := cell_regrown c1
                        have m2 := cell_regrown c2'
                        have m3 := cell_regrown c3
                        have l0 := cell_regrown d0
                        have l1 := cell_regrown d1
                        have l2 := cell_regrown d2
                        have l3 := cell_regrown d3
                        have HV1 : Hid (fm v.a v.b v.c v.d = true) := HVO.out.1
                        have HU1 : Hid (fm us.a us.b us.c us.d = true) := HVO.out.2.2
                        have G21 : Hid (∀ (a b c d : Int) (_ : Hid (fm a b c d = true)) dd os, Calls Try.prog 21 #[.agg #[.int .i64 a, .int .i64 b, .int .i64 c, .int .i64 d]] (grow (redrawn W7 dd) os) fun e w'' => e = .returned (.bool true) ∧ ∃ p : Regrown, w'' = grow (redrawn W7 p.d) p.os) := fun a b c d ha dd os => (grown (W := W7) (v := .bool true) (fun W _ => by
                          have := rformed_any a b c d W
                          rw [ha.out] at this
                          exact this)).out dd os
                        have G22 : Hid (∀ dd os, Calls Try.prog 22 #[.agg #[.int .i64 us.a, .int .i64 us.b, .int .i64 us.c, .int .i64 us.d], .agg #[.int .i64 v.a, .int .i64 v.b, .int .i64 v.c, .int .i64 v.d]] (grow (redrawn W7 dd) os) fun e w'' => e = .returned (.bool true) ∧ ∃ p : Regrown, w'' = grow (redrawn W7 p.d) p.os) := grown (W := W7) (v := .bool true) (fun W _ => by
                          have := rfits_any us.a us.b us.c us.d v.a v.b v.c v.d W
                          rw [show ft us.a us.b us.c us.d v.a v.b v.c v.d = true from HVO.out.2.1] at this
                          exact this)
                        clear hbel HVO
                        refine wp_region_quiet_below (by kernel_rfl) (by kernel_rfl) ?_
                        repeat (first | go_big_quiet_step (first | (go_at_call 21; exact G21.out _ _ _ _ (by assumption) _ _) | (go_at_call 22; exact G22.out _ _)) | quiet_step (first | (go_at_call 21; exact G21.out _ _ _ _ (by assumption) _ _) | (go_at_call 22; exact G22.out _ _)))
                        refine wpQuiet_nil ?_
                        intro _ hw'
                        obtain ⟨⟨dq, osq⟩, hw''⟩ := hw'
                        subst hw''
                        have h8 : Hid (HS w (grow (redrawn W7 dq) osq) pb L n) := h7.out.below (below_regrown W7 dq osq)
                        clear m0 m1 m2 m3 c0 c1 c2' c3 l0 l1 l2 l3 d0 d1 d2 d3 G21 G22 h7
                        generalize grow (redrawn W7 dq) osq = W8 at *
                        go_wp2_with fail
                        exact ⟨⟨k + 1, by simp, by omega, h8.out⟩, by simp only [intOf]; omega⟩
                    · have k1 : ¬ (k : Int) < (n : Int) := by omega
                      have k2 : decide ((k : Int) < (n : Int)) = false := decide_eq_false k1
                      go_wp2_with fail
                      exact ⟨⟨j + 1, by simp, by omega⟩, by simp only [intOf]; omega⟩
                · have k6 : (kd == 6) = false := by simpa using hk6
                  go_upto_region 16 with fail
                  have h5 := HJ
                  clear H19 H20 s0 s6 HJ
                  generalize hnn : i = n at *
                  go_wp2_with fail
                  go_loopw [8] (fun x wr => ∃ k : Nat, x = .int .i64 k ∧ k ≤ n ∧ Hid (HS w wr pb L n)) (fun x _ => n - (intOf x).toNat)
                  case atStart => exact ⟨0, rfl, Nat.zero_le _, h5.out⟩
                  case round =>
                    obtain ⟨k, rfl, hkn, HK⟩ := hrel
                    clear h5
                    by_cases hk : k < n
                    · have k1 : (k : Int) < (n : Int) := by omega
                      have k2 : decide ((k : Int) < (n : Int)) = true := decide_eq_true k1
                      have k3 : (k : Int) < 20 := by omega
                      have k4 : (0 : Int) ≤ (k : Int) := by omega
                      obtain ⟨v, hv⟩ : ∃ v, L[k]? = some v := ⟨_, List.getElem?_eq_getElem (by have := HR.out.2; omega)⟩
                      obtain ⟨us, hus, H14'⟩ := HK.out.used hk hv
                      have H14 : Hid (Calls Try.prog 14 #[.pointer (some ⟨pb, 0, none⟩), .string (nmB k)] wr fun e w' => e = .returned (.tuple #[.agg #[.int .i64 us.a, .int .i64 us.b, .int .i64 us.c, .int .i64 us.d], .int .i64 (if v.ok then 0 else 3)]) ∧ Hid (HS w w' pb L n)) := H14'
                      have HUS : Hid (v.ok = true → us.le v = true ∧ us.ok = true) := hus
                      have HV : Hid (L[k]? = some v) := hv
                      have hcv := nm_conv (i := k) (by omega)
                      have h32 : IntKind.i32.wrap (97 + (k : Int)) = 97 + (k : Int) := by rw [IntKind.wrap_i32]; omega
                      generalize nmB k = nb at *
                      clear H14' hus hv
                      cases hvo : v.ok
                      · rw [hvo, if_neg (by decide)] at H14
                        have HVO : Hid (v.ok = false) := hvo
                        clear hvo HUS
                        go_upto_region 20 with (go_at_call 14; refine H14.out.mono ?_; rintro e w6 ⟨rfl, h6⟩)
                        have h7 : Hid (HS w (w6.alloc (.cells #[.int .i64 us.a, .int .i64 us.b, .int .i64 us.c, .int .i64 us.d] 33 (0, 0))) pb L n) := h6.out.below ((Below.refl _ _).alloc (Nat.le_refl _) _)
                        clear h6 H14 hcv h32
                        generalize w6.alloc (.cells #[.int .i64 us.a, .int .i64 us.b, .int .i64 us.c, .int .i64 us.d] 33 (0, 0)) = W7 at *
                        generalize w6.heap.size = g9 at *
                        have hbel : Below w.heap.size w W7 := by obtain ⟨D, h1, _⟩ := h7.out; exact h1.bel
                        obtain ⟨g, a, rfl, c0, c1, c2', c3⟩ := HR.out.1.at hbel HV.out
                        have m0 := cell_regrown c0
                        have m1 := cell_regrown c1
                        have m2 := cell_regrown c2'
                        have m3 := cell_regrown c3
                        have H21 : Hid (∀ W, Below W7.heap.size W7 W → Calls Try.prog 21 #[.agg #[.int .i64 v.a, .int .i64 v.b, .int .i64 v.c, .int .i64 v.d]] W fun e w' => e = .returned (.bool false) ∧ Below W.heap.size W w') := fun W _ => by
                          have := rformed_any v.a v.b v.c v.d W
                          rw [show fm v.a v.b v.c v.d = false from HVO.out] at this
                          exact this
                        have G21 := grown H21
                        clear H21 hbel HVO
                        refine wp_region_quiet_below (by kernel_rfl) (by kernel_rfl) ?_
                        repeat (first | go_big_quiet_step ((go_at_call 21; exact G21.out _ _)) | quiet_step ((go_at_call 21; exact G21.out _ _)))
                        refine wpQuiet_nil ?_
                        intro _ hw'
                        obtain ⟨⟨dq, osq⟩, hw''⟩ := hw'
                        subst hw''
                        have h8 : Hid (HS w (grow (redrawn W7 dq) osq) pb L n) := h7.out.below (below_regrown W7 dq osq)
                        clear m0 m1 m2 m3 c0 c1 c2' c3 G21 h7
                        generalize grow (redrawn W7 dq) osq = W8 at *
                        go_wp2_with fail
                        exact ⟨⟨k + 1, by simp, by omega, h8.out⟩, by simp only [intOf]; omega⟩
                      · rw [hvo, if_pos rfl] at H14
                        have HVO : Hid (v.ok = true ∧ us.le v = true ∧ us.ok = true) := ⟨hvo, HUS.out hvo⟩
                        clear hvo HUS
                        go_upto_region 20 with (go_at_call 14; refine H14.out.mono ?_; rintro e w6 ⟨rfl, h6⟩)
                        have h7 : Hid (HS w (w6.alloc (.cells #[.int .i64 us.a, .int .i64 us.b, .int .i64 us.c, .int .i64 us.d] 33 (0, 0))) pb L n) := h6.out.below ((Below.refl _ _).alloc (Nat.le_refl _) _)
                        obtain ⟨d0, d1, d2, d3, -⟩ := cells4 (new0 (w := w6) (o := .cells #[.int .i64 us.a, .int .i64 us.b, .int .i64 us.c, .int .i64 us.d] 33 (0, 0)))
                        clear h6 H14 hcv h32
                        generalize w6.alloc (.cells #[.int .i64 us.a, .int .i64 us.b, .int .i64 us.c, .int .i64 us.d] 33 (0, 0)) = W7 at *
                        generalize w6.heap.size = g9 at *
                        have hbel : Below w.heap.size w W7 := by obtain ⟨D, h1, _⟩ := h7.out; exact h1.bel
                        obtain ⟨g, a, rfl, c0, c1, c2', c3⟩ := HR.out.1.at hbel HV.out
                        have m0 := cell_regrown c0
                        have m1 := cell_regrown c1
                        have m2 := cell_regrown c2'
                        have m3 := cell_regrown c3
                        have l0 := cell_regrown d0
                        have l1 := cell_regrown d1
                        have l2 := cell_regrown d2
                        have l3 := cell_regrown d3
                        have HV1 : Hid (fm v.a v.b v.c v.d = true) := HVO.out.1
                        have HU1 : Hid (fm us.a us.b us.c us.d = true) := HVO.out.2.2
                        have G21 : Hid (∀ (a b c d : Int) (_ : Hid (fm a b c d = true)) dd os, Calls Try.prog 21 #[.agg #[.int .i64 a, .int .i64 b, .int .i64 c, .int .i64 d]] (grow (redrawn W7 dd) os) fun e w'' => e = .returned (.bool true) ∧ ∃ p : Regrown, w'' = grow (redrawn W7 p.d) p.os) := fun a b c d ha dd os => (grown (W := W7) (v := .bool true) (fun W _ => by
                          have := rformed_any a b c d W
                          rw [ha.out] at this
                          exact this)).out dd os
                        have G22 : Hid (∀ dd os, Calls Try.prog 22 #[.agg #[.int .i64 us.a, .int .i64 us.b, .int .i64 us.c, .int .i64 us.d], .agg #[.int .i64 v.a, .int .i64 v.b, .int .i64 v.c, .int .i64 v.d]] (grow (redrawn W7 dd) os) fun e w'' => e = .returned (.bool true) ∧ ∃ p : Regrown, w'' = grow (redrawn W7 p.d) p.os) := grown (W := W7) (v := .bool true) (fun W _ => by
                          have := rfits_any us.a us.b us.c us.d v.a v.b v.c v.d W
                          rw [show ft us.a us.b us.c us.d v.a v.b v.c v.d = true from HVO.out.2.1] at this
                          exact this)
                        clear hbel HVO
                        refine wp_region_quiet_below (by kernel_rfl) (by kernel_rfl) ?_
                        repeat (first | go_big_quiet_step (first | (go_at_call 21; exact G21.out _ _ _ _ (by assumption) _ _) | (go_at_call 22; exact G22.out _ _)) | quiet_step (first | (go_at_call 21; exact G21.out _ _ _ _ (by assumption) _ _) | (go_at_call 22; exact G22.out _ _)))
                        refine wpQuiet_nil ?_
                        intro _ hw'
                        obtain ⟨⟨dq, osq⟩, hw''⟩ := hw'
                        subst hw''
                        have h8 : Hid (HS w (grow (redrawn W7 dq) osq) pb L n) := h7.out.below (below_regrown W7 dq osq)
                        clear m0 m1 m2 m3 c0 c1 c2' c3 l0 l1 l2 l3 d0 d1 d2 d3 G21 G22 h7
                        generalize grow (redrawn W7 dq) osq = W8 at *
                        go_wp2_with fail
                        exact ⟨⟨k + 1, by simp, by omega, h8.out⟩, by simp only [intOf]; omega⟩
                    · have k1 : ¬ (k : Int) < (n : Int) := by omega
                      have k2 : decide ((k : Int) < (n : Int)) = false := decide_eq_false k1
                      go_wp2_with fail
                      exact ⟨⟨j + 1, by simp, by omega⟩, by simp only [intOf]; omega⟩
            · have j1 : ¬ (j : Int) < (n2 : Int) := by omega
              have j2 : decide ((j : Int) < (n2 : Int)) = false := decide_eq_false j1
              go_wp2_with fail
              go_ret
              obtain ⟨D, h1, _⟩ := HJ.out
              exact ⟨rfl, h1.bel⟩
end Go.Proofs.Ytehgcaaeifnjeaa
