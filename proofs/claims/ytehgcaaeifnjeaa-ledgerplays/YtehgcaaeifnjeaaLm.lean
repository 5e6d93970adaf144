/-
  LedgerPlays' law.
-/
import Derived.Test.YtehgcaaeifnjeaaSd
import Derived.Test.YtehgcaaeifnjeaaLd
namespace Go.Proofs.Ytehgcaaeifnjeaa
open Go.RowKit Go.Maps Go.WideMaps

theorem step_any {w0 w : World} {pb rb : Nat} (h : P0 w0 w NX pb rb) (o : Opr) (hs : o.nm.size ≤ 281474976710656) (hz : ∀ e ∈ o.es, e.nm.size ≤ 281474976710656) (hl : o.es.length ≤ 2000) (hr : ERow w0 o.q o.es) :
    Calls Try.prog 12 #[.pointer (some ⟨pb, 0, none⟩), .pointer (some ⟨rb, 0, none⟩), .agg #[.int .i64 o.k, .string o.nm, .int .i64 o.v.a, .int .i64 o.v.b, .int .i64 o.v.c, .int .i64 o.v.d, .slice o.q o.es.length o.c]] w (StR w0 pb rb) := by
  by_cases h1 : o.k = 1
  · rw [h1]; exact step1 h _ hs _ _ _ _
  by_cases h2 : o.k = 2
  · rw [h2]; exact step2 h _ hs _ _ _ _
  by_cases h3 : o.k = 3
  · rw [h3]; exact step3 h _ hs _ _ _ _
  by_cases h4 : o.k = 4
  · rw [h4]; exact step4 h _ hs _ _ _ _
  by_cases h5 : o.k = 5
  · rw [h5]; exact step5 h _ _ _ _ _ o.es ⟨rfl, by omega⟩ hr hz
  by_cases h6 : o.k = 6
  · rw [h6]; exact step6 h _ _ _ _ _ o.es ⟨rfl, by omega⟩ hr hz
  by_cases h7 : o.k = 7
  · rw [h7]; exact step7 h _ _ _ _ _
  exact step0 h _ h1 h2 h3 h4 h5 h6 h7 _ _ _ _ _
/-- the round of the loop over the names -/
theorem sr_at {b : Nat} {w : World} {q : Option Addr} {n c : Nat} {L : List (List UInt8)} (h : SR b w (.slice q n c) L) {i : Nat} {s : List UInt8} (hi : L[i]? = some s) : ∃ g, q = some ⟨g, 0, none⟩ ∧ w.cell? ⟨g, i, none⟩ = some (.string ⟨⟨s⟩⟩) := by
  obtain ⟨g, e, hk⟩ := h.at (f := sC) (fun _ => rfl) hi
  refine ⟨g, e, ?_⟩
  have := hk 0 _ rfl
  simpa using this
set_option maxHeartbeats 4000000 in
set_option maxRecDepth 100000 in
theorem plays_law (q : Option Addr) (n c : Nat) (L : List Opr) (w : World) (hn : n = L.length) (hs : Scr w q L) (hz : ∀ o ∈ L, o.nm.size ≤ 281474976710656 ∧ Zs o.es) (hm : n ≤ 9223372036854775807) :
    Calls Try.prog 3 #[.slice q n c] w fun e w' => e = .returned (.bool true) ∧ Below w.heap.size w w' := by
  have HA : Hid (∀ W, Below w.heap.size w W → Calls Try.prog 9 #[] W fun e w' => e = .returned (.bool true) ∧ Hid (Below w.heap.size w w')) := fun W b => (awake_any w W NX b (fun k o h => by cases h)).mono fun e w' ⟨he, hb⟩ => ⟨he, hb.out.1⟩
  have HF : Hid (∀ W, Below w.heap.size w W → Calls Try.prog 10 #[.slice q n c] W fun e w' => e = .returned (.bool (fewN 0 L)) ∧ w' = W) := fun W b => few_any W q n c L hn (hs.below b) (fun o ho => (hz o ho).2.2) hm
  have HN : Hid (∀ W, Calls Try.prog 11 #[] W fun e w' => e = .returned (.pointer (some ⟨W.heap.size, 0, none⟩)) ∧ w' = W.alloc (.cells #[.map none] 61 (0, 0))) := new_any
  have HSc : Hid (Scr w q L ∧ n = L.length) := ⟨hs, hn⟩
  have HZ : Hid (∀ o ∈ L, o.nm.size ≤ 281474976710656 ∧ Zs o.es) := hz
  clear hs hz hn
  obtain ⟨b0, hb0⟩ : ∃ b0, b0 = fewN 0 L := ⟨_, rfl⟩
  rw [← hb0] at HF
  have HB0 : Hid (b0 = fewN 0 L) := hb0
  clear hb0
  cases b0
  · clear HN HSc HZ
    go_enter Try.func3, Try.ntmps3
    go_wp2_with (first | (go_at_call 9; refine (HA.out _ (Below.refl _ _)).mono ?_; rintro e w1 ⟨rfl, b1⟩) | (go_at_call 10; refine (HF.out _ b1.out).mono ?_; rintro e w2 ⟨rfl, h2⟩; obtain rfl := h2.symm))
    refine (HA.out _ b1.out).mono ?_
    first | rintro e w3 rfl b3 | rintro e w3 ⟨rfl, b3⟩
    go_wp2_with fail
    go_ret
    exact ⟨rfl, b3.out⟩
  · obtain ⟨hL2, hE2⟩ := few_yes HB0.out.symm
    have HE2 : Hid (∀ o ∈ L, o.es.length ≤ 2000) := hE2
    have hL3 : n ≤ 400 := by have := HSc.out.2; omega
    clear hL2 hE2 HB0 hm
    go_enter Try.func3, Try.ntmps3
    go_upto_region 3 with (first | (go_at_call 9; refine (HA.out _ (Below.refl _ _)).mono ?_; rintro e w1 ⟨rfl, b1⟩) | (go_at_call 10; refine (HF.out _ b1.out).mono ?_; rintro e w2 ⟨rfl, h2⟩; obtain rfl := h2.symm))
    clear HA HF
    go_upto_region 5 with (go_at_call 11; refine (HN.out _).mono ?_; rintro e w2 ⟨rfl, rfl⟩)
    have hP : Hid (P0 w ((w1.alloc (.cells #[.map none] 61 (0, 0))).alloc (.cells #[.slice none 0 0] 30 (0, 0))) NX w1.heap.size (w1.heap.size + 1)) := p0_new b1.out (fun k o h => by cases h)
    generalize (w1.alloc (.cells #[.map none] 61 (0, 0))).alloc (.cells #[.slice none 0 0] 30 (0, 0)) = W0 at *
    generalize w1.heap.size + 1 = rb at *
    generalize w1.heap.size = pb at *
    clear b1 HN
    go_wp2_with fail
    go_loopw [5] (fun t wr => ∃ k : Nat, t = .int .i64 k ∧ k ≤ n ∧ Hid (P0 w wr NX pb rb)) (fun t _ => n - (intOf t).toNat)
    case atStart => exact ⟨0, rfl, Nat.zero_le _, hP.out⟩
    case round =>
      clear hP
      obtain ⟨k, rfl, hk, HK⟩ := hrel
      by_cases hkn : k < n
      · obtain ⟨o, ho⟩ : ∃ o, L[k]? = some o := ⟨_, List.getElem?_eq_getElem (by have := HSc.out.2; omega)⟩
        obtain ⟨⟨g, f, rfl, d0, d1, d2, d3, d4, d5, d6⟩, hrow, -⟩ := HSc.out.1.below HK.out.bel k o ho
        have hg := hrow
        have hr0 : ERow w o.q o.es := (HSc.out.1 k o ho).2.1
        have hom := List.mem_of_getElem? ho
        have HS : Hid (Calls Try.prog 12 #[.pointer (some ⟨pb, 0, none⟩), .pointer (some ⟨rb, 0, none⟩), .agg #[.int .i64 o.k, .string o.nm, .int .i64 o.v.a, .int .i64 o.v.b, .int .i64 o.v.c, .int .i64 o.v.d, .slice o.q o.es.length o.c]] wr (fun e w' => e = .returned (.bool true) ∧ Hid (P0 w w' NX pb rb))) := step_any HK.out o (HZ.out o hom).1 (HZ.out o hom).2.1 (HE2.out o hom) hr0
        have hk1 : (k : Int) < (n : Int) := by omega
        have hk2 : decide ((k : Int) < (n : Int)) = true := decide_eq_true hk1
        clear hrow hg hr0 HK
        obtain ⟨ok, onm, ⟨va, vb, vc, vd⟩, oq, oes, oc⟩ := o
        simp only [] at d0 d1 d2 d3 d4 d5 d6 HS
        clear ho hom
        go_wp2_with (go_at_call 12; refine HS.out.mono ?_; rintro e w3 ⟨rfl, h3⟩)
        exact ⟨⟨k + 1, by simp, hkn, h3.out⟩, by simp [intOf]; omega⟩
      · have hk1 : ¬ (k : Int) < (n : Int) := by omega
        have hk2 : decide ((k : Int) < (n : Int)) = false := decide_eq_false hk1
        clear HSc HZ HE2 hL3 hk hkn
        obtain ⟨D, hD⟩ := HK.out
        obtain ⟨M, hM⟩ : ∃ M, M = D.length := ⟨_, rfl⟩
        have HD : Hid (L2 w wr NX pb rb D D ∧ M = D.length) := ⟨hD, hM⟩
        have hM64 : M ≤ 64 := by
          obtain ⟨S, T, h1, -⟩ := hD.both
          have := h1.len
          omega
        have HR : Hid (Calls Try.prog 13 #[.pointer (some ⟨rb, 0, none⟩)] wr fun e w' => ∃ p c', e = .returned (.slice p M c') ∧ Hid (SR wr.heap.size w' (.slice p M c') (D.map A.nm) ∧ Below wr.heap.size wr w')) := by
          obtain ⟨S, T, -, h2, -⟩ := hD.both
          rw [hM]
          exact rnames_any h2
        clear hD hM HK
        generalize wr = V at *
        go_upto_region 11 with (go_at_call 13; refine HR.out.mono ?_; rintro e w2 ⟨p, c', rfl, h2⟩)
        clear HR
        go_wp2_with fail
        go_loopw [7] (fun t wr => ∃ k : Nat, t = .int .i64 k ∧ k ≤ M ∧ Hid (Below V.heap.size V wr ∧ SR V.heap.size wr (.slice p M c') (D.map A.nm))) (fun t _ => M - (intOf t).toNat)
        case atStart => exact ⟨0, rfl, Nat.zero_le _, h2.out.2, h2.out.1⟩
        case round =>
          clear h2
          obtain ⟨i, rfl, hi, HI⟩ := hrel
          by_cases hin : i < M
          · obtain ⟨s, hs⟩ : ∃ s, (D.map A.nm)[i]? = some s := ⟨_, List.getElem?_eq_getElem (by have := HD.out.2; rw [List.length_map]; omega)⟩
            obtain ⟨g, rfl, hg⟩ := sr_at HI.out.2 hs
            have hss : s.length ≤ maxLen := by
              obtain ⟨S, T, h1, -⟩ := HD.out.1.both
              exact names_small h1 s (List.mem_of_getElem? hs)
            obtain ⟨⟨xa, xb, xc, xd⟩, m, HX⟩ : ∃ (x : Ytehgcaaeifnjeaa.V) (m : Int), Hid (∀ W, Below V.heap.size V W → (Calls Try.prog 14 #[.pointer (some ⟨pb, 0, none⟩), .string ⟨⟨s⟩⟩] W fun e w' => e = .returned (.tuple #[.agg #[.int .i64 x.a, .int .i64 x.b, .int .i64 x.c, .int .i64 x.d], .int .i64 m]) ∧ Hid (Below W.heap.size W w')) ∧ Calls Try.prog 15 #[.pointer (some ⟨rb, 0, none⟩), .string ⟨⟨s⟩⟩] W fun e w' => e = .returned (.tuple #[.agg #[.int .i64 x.a, .int .i64 x.b, .int .i64 x.c, .int .i64 x.d], .int .i64 m]) ∧ Hid (Below W.heap.size W w')) := by
              refine ⟨(usedD D s).1, (usedD D s).2, fun W b => ?_⟩
              obtain ⟨S, T, h1, h2, -⟩ := (HD.out.1.below b).both
              exact ⟨used_any2 h1 ⟨⟨s⟩⟩ hss, rused_any h2 s⟩
            simp only [] at HX
            have q1 : ∀ w, (Op.equalIn 10000 33 (.agg #[.int .i64 xa, .int .i64 xb, .int .i64 xc, .int .i64 xd]) (.agg #[.int .i64 xa, .int .i64 xb, .int .i64 xc, .int .i64 xd])).run Try.prog w = .ok true w := fun w => (eq4 xa xb xc xd xa xb xc xd w).trans (by simp)
            have hi1 : (i : Int) < (M : Int) := by omega
            have hi2 : decide ((i : Int) < (M : Int)) = true := decide_eq_true hi1
            have hglt : g < wr.heap.size := HI.out.2.lt rfl
            have A1 := (HX.out wr HI.out.1).1
            clear hs hss
            go_upto_region 15 with (go_at_call 14; refine A1.mono ?_; rintro e w3 ⟨rfl, b3⟩)
            have hg3 := cell_keep b3.out hg
            have hsz3 := b3.out.size
            have hglt3 : g < w3.heap.size := by omega
            have B3 : Hid (Below V.heap.size V w3) := HI.out.1.trans (b3.out.mono HI.out.1.size)
            have A2 := (HX.out (w3.alloc (.cells #[.int .i64 xa, .int .i64 xb, .int .i64 xc, .int .i64 xd] 33 (0, 0))) (B3.out.alloc B3.out.size _)).2
            have HI3 : Hid (SR V.heap.size w3 (.slice (some ⟨g, 0, none⟩) M c') (D.map A.nm)) := HI.out.2.below b3.out
            clear A1 b3 hg HX hglt hsz3
            go_upto_region 16 with (go_at_call 15; refine A2.mono ?_; rintro e w4 ⟨rfl, b4⟩)
            have hC := at_below b4.out (Nat.le_refl _) new0
            have hlt2 := (Array.getElem?_eq_some_iff.1 hC).1
            obtain ⟨c0, c1, c2, c3, -⟩ := cells4 hC
            have B4 : Hid (Below V.heap.size V w4) := (B3.out.alloc B3.out.size _).trans (b4.out.mono (by have := B3.out.size; simp; omega))
            have HI4 : Hid (SR V.heap.size w4 (.slice (some ⟨g, 0, none⟩) M c') (D.map A.nm)) := (HI3.out.below ((Below.refl _ _).alloc (Nat.le_refl _) _)).below b4.out
            clear A2 b4 hC HI3 B3
            go_wp2_with fail
            exact ⟨⟨i + 1, by simp, hin, B4.out.alloc B4.out.size _, HI4.out.below ((Below.refl _ _).alloc (Nat.le_refl _) _)⟩, by simp [intOf]; omega⟩
          · have hi1 : ¬ (i : Int) < (M : Int) := by omega
            have hi2 : decide ((i : Int) < (M : Int)) = false := decide_eq_false hi1
            have HP : Hid (Calls Try.prog 17 #[.pointer (some ⟨pb, 0, none⟩)] wr fun e w1 => ∃ p1 c1, e = .returned (.slice p1 M c1) ∧ Hid (Calls Try.prog 16 #[.slice p1 M c1, .slice p M c'] w1 fun e w3 => e = .returned (.bool true) ∧ Hid (Below w.heap.size w w3))) := by
              obtain ⟨S, T, h1, -⟩ := (HD.out.1.below HI.out.1).both
              have hb := (HD.out.1.below HI.out.1).bel
              have := pnames_any h1
              rw [← HD.out.2] at this
              refine this.mono ?_
              rintro e w1 ⟨p1, c1, he, k1⟩
              refine ⟨p1, c1, he, (rsame_raw w1 M c1 c' _ _ p1 p (D.map A.nm) k1.out.1 (HI.out.2.below k1.out.2) (by omega)).mono ?_⟩
              rintro e w3 ⟨he3, k3⟩
              have b1 := hb.trans (k1.out.2.mono hb.size)
              exact ⟨he3, b1.trans (k3.out.mono b1.size)⟩
            clear HI HD hi
            go_wp2_with (first
              | (go_at_call 17; refine HP.out.mono ?_; rintro e w1 ⟨p1, c1, rfl, k1⟩)
              | (go_at_call 16; refine k1.out.mono ?_; rintro e w3 ⟨rfl, k3⟩))
            go_ret
            exact ⟨rfl, k3.out⟩
end Go.Proofs.Ytehgcaaeifnjeaa
