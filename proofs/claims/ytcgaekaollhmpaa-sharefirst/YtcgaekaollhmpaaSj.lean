/-
  ShareTurns' law.
-/
import Derived.Test.YtcgaekaollhmpaaSi
namespace Go.Proofs.Ytcgaekaollhmpaa
open Go.RowKit Go.Maps

theorem uC_one (u : U) : ∀ x ∈ uC u, x.oneCell' = true := by
  intro x hx
  simp only [uC, List.mem_cons, List.not_mem_nil, or_false] at hx
  rcases hx with rfl | rfl | rfl | rfl | rfl | rfl <;> rfl
theorem info37 : (Try.prog.info? 37).map (fun i => (i.zero, i.size, i.bytes)) = some (some (.agg #[.string ⟨#[]⟩, .int .i64 0, .int .i64 0, .int .i64 0, .int .i64 0, .int .i64 0]), 6, 56) := by kernel_rfl
theorem uarg_row {b : Nat} {w : World} {q : Option Addr} {n c : Nat} {L : List U} (h : GRow 37 6 uC b w (.slice q n c) L) (hs : ∀ u ∈ L, u.nm.length ≤ 281474976710656) : UArg w q L := by
  refine ⟨fun i u hu => ?_, hs⟩
  obtain ⟨g, rfl, hc⟩ := h.at uC_len hu
  refine ⟨g, 0, rfl, ?_, ?_, ?_, ?_, ?_, ?_⟩
  · have := hc 0 _ rfl; simpa using this
  · have := hc 1 _ rfl; simpa using this
  · have := hc 2 _ rfl; simpa using this
  · have := hc 3 _ rfl; simpa using this
  · have := hc 4 _ rfl; simpa using this
  · have := hc 5 _ rfl; simpa using this
/-- a stretch of the usages that came in -/
theorem UArg.rowV {w : World} {g f : Nat} {L : List U} (h : UArg w (some ⟨g, f, none⟩) L) (r m : Nat) : RowV w g (f + r * 6) (((L.drop r).take m).flatMap uC) := fun k x hk => by
  have hk2 : k < (((L.drop r).take m).flatMap uC).length := (List.getElem?_eq_some_iff.1 hk).1
  rw [flat_length uC_len] at hk2
  have hi : k / 6 < ((L.drop r).take m).length := by omega
  obtain ⟨u, hu⟩ : ∃ u, ((L.drop r).take m)[k / 6]? = some u := ⟨_, List.getElem?_eq_getElem hi⟩
  have hu2 : L[r + k / 6]? = some u := by
    rw [List.getElem?_take] at hu
    split at hu
    · rw [List.getElem?_drop] at hu; exact hu
    · cases hu
  have e := cs_get uC_len hu (k % 6) (by omega)
  rw [show k / 6 * 6 + k % 6 = k by omega, hk] at e
  obtain ⟨g', f', e1, h0, h1, h2, h3, h4, h5⟩ := h.c _ u hu2
  cases e1
  have e6 : k % 6 = 0 ∨ k % 6 = 1 ∨ k % 6 = 2 ∨ k % 6 = 3 ∨ k % 6 = 4 ∨ k % 6 = 5 := by omega
  rcases e6 with q | q | q | q | q | q <;> rw [q] at e <;> cases e
  · rw [show f + r * 6 + k = f + (r + k / 6) * 6 by omega]; exact h0
  · rw [show f + r * 6 + k = f + (r + k / 6) * 6 + 1 by omega]; exact h1
  · rw [show f + r * 6 + k = f + (r + k / 6) * 6 + 2 by omega]; exact h2
  · rw [show f + r * 6 + k = f + (r + k / 6) * 6 + 3 by omega]; exact h3
  · rw [show f + r * 6 + k = f + (r + k / 6) * 6 + 4 by omega]; exact h4
  · rw [show f + r * 6 + k = f + (r + k / 6) * 6 + 5 by omega]; exact h5
theorem OrdR.perm {all : Vs.V} {L L' : List U} {e e' : Nat} {R R' : List Tn} (p : L.Perm L') (h : OrdR all L e R) (h' : OrdR all L' e' R') : (e = 0 ↔ e' = 0) ∧ R = R' := by
  have hf : fstE all L = 0 ↔ fstE all L' = 0 := by
    rw [fstE_zero, fstE_zero]
    exact ⟨fun q u hu => q u (p.mem_iff.2 hu), fun q u hu => q u (p.mem_iff.1 hu)⟩
  have hn : Nd L ↔ Nd L' := p.pairwise_iff (R := fun a b : U => a.nm ≠ b.nm) (fun q => Ne.symm q)
  rcases h with ⟨h1, h2, h3⟩ | ⟨h1, h2, h3, h4⟩ | ⟨h1, h2, h3, h4, h5⟩ <;> rcases h' with ⟨k1, k2, k3⟩ | ⟨k1, k2, k3, k4⟩ | ⟨k1, k2, k3, k4, k5⟩
  · exact ⟨⟨fun q => absurd q h2, fun q => absurd q k2⟩, h3.trans k3.symm⟩
  · rw [hf.2 k1] at h1; exact absurd h1 h2
  · rw [hf.2 k1] at h1; exact absurd h1 h2
  · rw [hf.1 h1] at k1; exact absurd k1 k2
  · exact ⟨by omega, h4.trans k4.symm⟩
  · exact absurd (hn.2 k2) h2
  · rw [hf.1 h1] at k1; exact absurd k1 k2
  · exact absurd (hn.1 h2) k2
  · exact ⟨by omega, List.Perm.eq_of_pairwise (le := tb) (fun a b _ _ q r => (tb_asym q r).elim) h5 k5 (h4.trans ((p.map (ten all)).trans k4.symm))⟩
set_option maxHeartbeats 4000000 in
set_option maxRecDepth 100000 in
theorem turns_law (all : Vs.V) (q : Option Addr) (n c : Nat) (L : List U) (kk : Nat) (w : World) (hn : n = L.length) (hr : UArg w q L) (hm : n ≤ 9223372036854775807) (hc : n ≤ c) (hkk : kk < 256) :
    Calls Try.prog 4 #[.agg #[.int .i64 all.a, .int .i64 all.b, .int .i64 all.c, .int .i64 all.d], .slice q n c, .int .u8 kk] w fun e w' => e = .returned (.bool true) ∧ Below w.heap.size w w' := by
  have HA : Hid (∀ W, Calls Try.prog 7 #[] W fun e w' => e = .returned (.bool true) ∧ Hid (Below W.heap.size W w')) := awake_any
  have HR : Hid (UArg w q L ∧ n = L.length) := ⟨hr, hn⟩
  obtain ⟨l0, l1, l2, l3⟩ := all
  simp only []
  clear hr hn
  have B0 : Hid (Below w.heap.size w (w.alloc (.cells #[.int .i64 l0, .int .i64 l1, .int .i64 l2, .int .i64 l3] 23))) := (Below.refl _ w).alloc (Nat.le_refl _) _
  have N0 : Hid ((w.alloc (.cells #[.int .i64 l0, .int .i64 l1, .int .i64 l2, .int .i64 l3] 23)).heap[w.heap.size]? = some (.cells #[.int .i64 l0, .int .i64 l1, .int .i64 l2, .int .i64 l3] 23 (0, 0))) := new0
  by_cases h20 : 100 < n ∨ n = 0
  · clear HR N0
    go_enter Try.func4, Try.ntmps4
    go_upto_region 1 with fail
    generalize w.alloc (.cells #[.int .i64 l0, .int .i64 l1, .int .i64 l2, .int .i64 l3] 23) = W1 at *
    rcases h20 with h20 | rfl
    · have g1 : (100 : Int) < (n : Int) := by omega
      have g3 : decide ((100 : Int) < (n : Int)) = true := decide_eq_true g1
      go_wp2_with (first
        | (go_at_call 7; have _ := b1; refine (HA.out _).mono ?_; rintro e w3 ⟨rfl, b3⟩)
        | (go_at_call 7; refine (HA.out _).mono ?_; rintro e w1 ⟨rfl, b1⟩))
      go_ret
      exact ⟨rfl, (B0.out.trans (b1.out.mono B0.out.size)).trans (b3.out.mono (Nat.le_trans B0.out.size b1.out.size))⟩
    · go_wp2_with (first
        | (go_at_call 7; have _ := b1; refine (HA.out _).mono ?_; rintro e w3 ⟨rfl, b3⟩)
        | (go_at_call 7; refine (HA.out _).mono ?_; rintro e w1 ⟨rfl, b1⟩))
      go_ret
      exact ⟨rfl, (B0.out.trans (b1.out.mono B0.out.size)).trans (b3.out.mono (Nat.le_trans B0.out.size b1.out.size))⟩
  have g20 : ¬ (100 : Int) < (n : Int) := by omega
  have g20' : decide ((100 : Int) < (n : Int)) = false := decide_eq_false g20
  have g21 : ((n : Int) == 0) = false := by simp; omega
  have g22 : ¬ (n : Int) = 0 := by omega
  have h100 : n ≤ 100 := by omega
  have hpos : 1 ≤ n := by omega
  clear hm h20
  obtain ⟨g, f, rfl⟩ : ∃ g f, q = some ⟨g, f, none⟩ := by
    obtain ⟨u, hu⟩ : ∃ u, L[0]? = some u := ⟨_, List.getElem?_eq_getElem (by have := HR.out.2; omega)⟩
    obtain ⟨g, f, e, _⟩ := HR.out.1.c 0 u hu
    exact ⟨g, f, e⟩
  go_enter Try.func4, Try.ntmps4
  go_upto_region 1 with fail
  obtain ⟨bw, hbw⟩ : ∃ bw, bw = w.heap.size := ⟨_, rfl⟩
  rw [← hbw] at N0 ⊢
  have HBW : Hid (bw = w.heap.size) := hbw
  clear hbw
  generalize w.alloc (.cells #[.int .i64 l0, .int .i64 l1, .int .i64 l2, .int .i64 l3] 23) = W1 at *
  go_upto_region 3 with (go_at_call 7; refine (HA.out _).mono ?_; rintro e w1 ⟨rfl, b1⟩)
  obtain ⟨r, hrr⟩ : ∃ r, r = kk % n := ⟨_, rfl⟩
  have hrn : r < n := by rw [hrr]; exact Nat.mod_lt _ (by omega)
  have r1 : (kk : Int).tmod (n : Int) = (r : Int) := by rw [hrr]; exact (Int.ofNat_tmod kk n).symm
  have r2 : IntKind.i64.wrap (r : Int) = (r : Int) := by simp [IntKind.wrap, IntKind.bits, IntKind.signed]; omega
  have r3 : IntKind.i64.wrap (kk : Int) = (kk : Int) := by simp [IntKind.wrap, IntKind.bits, IntKind.signed]; omega
  clear hrr
  have s1 : (r : Int) ≤ (n : Int) := by omega
  have s2 : (n : Int) ≤ (c : Int) := by omega
  have s3 : (r : Int) ≤ (c : Int) := by omega
  have s4 : (0 : Int) ≤ (r : Int) := by omega
  go_upto_region 5 with fail
  have HB1 : Hid (Below w.heap.size w w1) := B0.out.trans (b1.out.mono B0.out.size)
  have HN1 : Hid (w1.heap[bw]? = some (.cells #[.int .i64 l0, .int .i64 l1, .int .i64 l2, .int .i64 l3] 23 (0, 0))) := at_below b1.out (Nat.le_refl _) N0.out
  obtain ⟨F, hF⟩ : ∃ F, F = (L.drop r).take (n - r) := ⟨_, rfl⟩
  obtain ⟨F2, hF2⟩ : ∃ F2, F2 = (L.drop 0).take r := ⟨_, rfl⟩
  have HP : Hid (([] ++ F ++ F2).Perm L ∧ n - r = F.length ∧ r = F2.length) := by
    have e := HR.out.2
    refine ⟨?_, by rw [hF, List.length_take, List.length_drop]; omega, by rw [hF2, List.length_take, List.length_drop]; omega⟩
    rw [hF, hF2, List.drop_zero, List.take_of_length_le (by rw [List.length_drop]; omega), List.nil_append]
    exact List.perm_append_comm.trans (by rw [List.take_append_drop])
  have V1 : Hid (RowV w1 g (f + r * 6) (F.flatMap uC)) := by rw [hF]; exact (HR.out.1.below HB1.out).rowV r (n - r)
  have V2 : Hid (∀ W, Below w1.heap.size w1 W → RowV W g f (F2.flatMap uC)) := fun W b => by
    have := ((HR.out.1.below HB1.out).below b).rowV 0 r
    rw [← hF2] at this
    simpa using this
  have e9 : Hid (0 + (n - r) ≤ maxLen) := by show _ ≤ _; unfold maxLen; omega
  have e8 : Hid ((0 + (n - r)) * 56 ≤ 140737488355328) := by show _ ≤ _; omega
  have e7 : Hid ((n - r) + r ≤ maxLen) := by show _ ≤ _; unfold maxLen; omega
  have e6 : Hid (((n - r) + r) * 56 ≤ 140737488355328) := by show _ ≤ _; omega
  clear hF hF2 b1 N0 B0 HA
  go_upto_region 6 with (at_builtin; refine append_g (B := w1.heap.size) uC_len uC_one Try.underlying24 info37 rfl (by decide) rfl _ _ rfl none 0 0 [] rfl (GRow.nil _ _ _ _ _) (Nat.le_refl _) g (f + r * 6) (n - r) (c - r) F rfl HP.out.2.1 V1.out e9.out e8.out ?_; intro p2 c2 w2 hr2 hb2; rw [Nat.zero_add] at hr2)
  go_upto_region 7 with (at_builtin; refine append_g (B := w1.heap.size) uC_len uC_one Try.underlying24 info37 rfl (by decide) rfl _ _ rfl p2 (n - r) c2 ([] ++ F) rfl hr2 hb2.size g f r c F2 rfl HP.out.2.2 (V2.out _ hb2) e7.out e6.out ?_; intro p3 c3 w3 hr3 hb3)
  have B3 : Below w1.heap.size w1 w3 := hb2.trans hb3
  have HB3 : Hid (Below w.heap.size w w3) := HB1.out.trans (B3.mono HB1.out.size)
  have HU : Hid (UArg w3 p3 ([] ++ F ++ F2)) := uarg_row hr3 fun u hu => HR.out.1.s u (HP.out.1.mem_iff.1 hu)
  have HN3 : Hid (w3.heap[bw]? = some (.cells #[.int .i64 l0, .int .i64 l1, .int .i64 l2, .int .i64 l3] 23 (0, 0))) := at_below B3 (Nat.le_refl _) HN1.out
  clear hr2 hb2 hr3 hb3 V1 V2 e9 e8 e7 e6 B3 HN1 HB1
  have H8a : Hid (Calls Try.prog 8 #[.agg #[.int .i64 l0, .int .i64 l1, .int .i64 l2, .int .i64 l3], .slice (some ⟨g, f, none⟩) n c] w3 (OrdP w3 ⟨l0, l1, l2, l3⟩ L)) := order_any ⟨l0, l1, l2, l3⟩ _ n c L w3 HR.out.2 (HR.out.1.below HB3.out) (by omega)
  obtain ⟨d0, d1, d2, d3⟩ := c4b HN3.out
  obtain ⟨N2, hN2⟩ : ∃ N2, N2 = (n - r) + r := ⟨_, rfl⟩
  rw [← hN2]
  have HN2 : Hid (N2 = ([] ++ F ++ F2).length ∧ N2 ≤ 1000) := ⟨by rw [HP.out.1.length_eq, ← HR.out.2]; omega, by omega⟩
  clear hN2
  go_upto_region 8 with (go_at_call 8; refine H8a.out.mono ?_; rintro e w4 ⟨pa, ma, ca, ea, Ra, rfl, hma, h4⟩)
  obtain ⟨o4, s4', b4⟩ := h4.out
  have H8b : Hid (Calls Try.prog 8 #[.agg #[.int .i64 l0, .int .i64 l1, .int .i64 l2, .int .i64 l3], .slice p3 N2 c3] w4 (OrdP w4 ⟨l0, l1, l2, l3⟩ ([] ++ F ++ F2))) := order_any ⟨l0, l1, l2, l3⟩ _ N2 c3 _ w4 HN2.out.1 (HU.out.below b4) HN2.out.2
  have O4 : Hid (OrdR ⟨l0, l1, l2, l3⟩ L ea Ra ∧ SR w3.heap.size w4 (.slice pa ma ca) (Ra.map Tn.nm) ∧ Below w.heap.size w w4) := ⟨o4, s4', HB3.out.trans (b4.mono HB3.out.size)⟩
  have HN4 := at_below b4 (Nat.le_refl _) HN3.out
  clear d0 d1 d2 d3 h4 o4 s4' b4 H8a
  obtain ⟨d0, d1, d2, d3⟩ := c4b HN4
  clear HN4
  go_upto_region 9 with (go_at_call 8; refine H8b.out.mono ?_; rintro e w5 ⟨pb, mb, cb, eb, Rb, rfl, hmb, h5⟩)
  obtain ⟨o5, s5, b5⟩ := h5.out
  obtain ⟨x1, x2⟩ := O4.out.1.perm HP.out.1.symm o5
  subst x2
  obtain rfl : mb = ma := by rw [s5.len, O4.out.2.1.len]
  have H11 : Hid (Calls Try.prog 11 #[.slice pa mb ca, .slice pb mb cb] w5 fun e w' => e = .returned (.bool true) ∧ Hid (Below w5.heap.size w5 w')) := rsame_raw w5 mb ca cb _ _ pa pb _ (O4.out.2.1.below b5) s5 (by omega)
  have HF : Hid (Below w.heap.size w w5) := O4.out.2.2.trans (b5.mono O4.out.2.2.size)
  clear d0 d1 d2 d3 h5 o5 s5 b5 H8b O4 HP HU HR
  by_cases he : ea = 0
  · have he2 := x1.1 he
    subst he he2
    clear x1
    go_wp2_with (go_at_call 11; refine H11.out.mono ?_; rintro e w6 ⟨rfl, b6⟩)
    go_ret
    exact ⟨by simp, HF.out.trans (b6.out.mono HF.out.size)⟩
  · have he2 : ¬ eb = 0 := fun q => he (x1.2 q)
    have t1 : ((ea : Int) == 0) = false := by simp; omega
    have t2 : ((eb : Int) == 0) = false := by simp; omega
    clear x1
    go_wp2_with (go_at_call 11; refine H11.out.mono ?_; rintro e w6 ⟨rfl, b6⟩)
    go_ret
    exact ⟨by simp, HF.out.trans (b6.out.mono HF.out.size)⟩
end Go.Proofs.Ytcgaekaollhmpaa
