/-
  lined: tenants stand in a line.
-/
import Derived.Test.YtcgaekaollhmpaaGreatSd
import Derived.Test.YtcgaekaollhmpaaGreatSc
namespace Go.Proofs.YtcgaekaollhmpaaGreat
open Go.RowKit Go.Maps

/-- the keys of the first k tenants -/
def kC (S : List Tn) (k : Nat) : Ct := fun x => if 0 ≤ x ∧ x < (k : Int) then (S[x.toNat]?).map fun t => ⟨t.n, t.d, x⟩ else none
theorem kC_zero (S : List Tn) : kC S 0 = Ct.nil := by
  funext x
  unfold kC Ct.nil
  exact if_neg (by omega)
theorem kC_succ {S : List Tn} {k : Nat} {t : Tn} (h : S[k]? = some t) : kC S (k + 1) = (kC S k).put k ⟨t.n, t.d, k⟩ := by
  funext x
  unfold kC Ct.put
  by_cases e : x = (k : Int)
  · subst e
    rw [if_pos (by omega), if_pos rfl, Int.toNat_natCast, h]
    rfl
  · rw [if_neg e]
    by_cases q : 0 ≤ x ∧ x < (k : Int)
    · show _ = (if 0 ≤ x ∧ x < (k : Int) then _ else _)
      rw [if_pos q, if_pos (by omega)]
    · show _ = (if 0 ≤ x ∧ x < (k : Int) then _ else _)
      rw [if_neg q, if_neg (by omega)]
structure Tok (t : Tn) : Prop where
  n : t.n < 18446744073709551616
  d : t.d < 18446744073709551616
  z : t.d ≠ 0
def pC (b : Nat) : List Value := [.pointer (some ⟨b, 0, none⟩)]
theorem pC_len (b : Nat) : (pC b).length = 1 := rfl
theorem pC_one (b : Nat) : ∀ u ∈ pC b, u.oneCell' = true := by
  intro u hu
  rw [List.mem_singleton.1 hu]
  rfl
theorem info72 : (Tryz.prog.info? 70).map (fun i => (i.zero, i.size, i.bytes)) = some (some (.pointer none), 1, 8) := by kernel_rfl
theorem Lw.base {w W wr : World} {hb g n : Nat} {C : Ct} {T T1 : Nat → Prop} (h : Lw W wr hb C g n T1) (b : Below w.heap.size w W) (hT : ∀ j, T j → T1 j ∨ j < W.heap.size) : Lw w wr hb C g n T := by
  obtain ⟨S, tg, h⟩ := h
  refine ⟨S, tg, h.h, fun k hk => Nat.le_trans b.size (h.t k hk), fun j hj => ?_, b.trans (h.b.mono b.size)⟩
  rcases hT j hj with q | q
  · exact h.u j q
  · refine ⟨Nat.lt_of_lt_of_le q h.b.size, ?_⟩
    by_cases e : tg j = .no
    · exact e
    · have := h.t j e; omega
/-- while tenants are put in -/
structure LnB (W wr : World) (S : List Tn) (k lb hb hr cap : Nat) : Prop where
  h : Lw W wr hb (kC S k) k k (fun j => j = lb ∨ j = hr)
  a : wr.heap[lb]? = some (.cells #[.slice (some ⟨hr, 0, none⟩) 1 cap] 69 (0, 0))
  c : wr.cell? ⟨hr, 0, none⟩ = some (.pointer (some ⟨hb, 0, none⟩))
  l : W.heap.size ≤ lb ∧ W.heap.size ≤ hr
def LnR (W : World) (S : List Tn) (lb k : Nat) (y : Value) (wr : World) : Prop :=
  (k = 0 ∧ y = .pointer none ∧ wr.heap[lb]? = some (.cells #[.slice none 0 0] 69 (0, 0)) ∧ W.heap.size ≤ lb ∧ Below W.heap.size W wr) ∨ ∃ hb hr cap, k ≠ 0 ∧ y = .pointer (some ⟨hb, 0, none⟩) ∧ LnB W wr S k lb hb hr cap
set_option maxHeartbeats 4000000 in
set_option maxRecDepth 100000 in
theorem lined_any (w W : World) (g n c : Nat) (S : List Tn) (T : Nat → Prop) (hn : n = S.length) (hr : Tr W g S) (hb : Below w.heap.size w W) (hT : ∀ j, T j → j < W.heap.size) (hm : n ≤ 1000) (hok : ∀ t ∈ S, Tok t) :
    Calls Tryz.prog 11 #[.slice (some ⟨g, 0, none⟩) n c] W fun e w' => ∃ lb, e = .returned (.pointer (some ⟨lb, 0, none⟩)) ∧ Hid (Lin w w' lb (kC S n) n T ∧ Below W.heap.size W w') := by
  have HR : Hid (Tr W g S ∧ n = S.length ∧ (∀ t ∈ S, Tok t) ∧ Below w.heap.size w W ∧ ∀ j, T j → j < W.heap.size) := ⟨hr, hn, hok, hb, hT⟩
  clear hr hn hok hb hT
  go_enter Tryz.func11, Tryz.ntmps11
  go_upto_region 3 with fail
  have G0 : Hid (LnR W S W.heap.size 0 (.pointer none) (W.alloc (.cells #[.slice none 0 0] 69))) := .inl ⟨rfl, rfl, new0, Nat.le_refl _, (Below.refl _ W).alloc (Nat.le_refl _) _⟩
  obtain ⟨lb, hlb⟩ : ∃ lb, lb = W.heap.size := ⟨_, rfl⟩
  rw [← hlb] at G0 ⊢
  clear hlb
  generalize W.alloc (.cells #[.slice none 0 0] 69) = W1 at *
  go_wp2_with fail
  go_loopw [4, 14] (fun y x wr => ∃ (k : Nat), x = .int .i64 k ∧ k ≤ n ∧ Hid (LnR W S lb k y wr)) (fun _ x _ => n - (intOf x).toNat)
  case atStart => exact ⟨0, rfl, Nat.zero_le _, G0.out⟩
  case round =>
    obtain ⟨k, rfl, hk, HI⟩ := hrel
    clear G0
    by_cases hkn : k < n
    · have k1 : (k : Int) < (n : Int) := by omega
      have k2 : decide ((k : Int) < (n : Int)) = true := decide_eq_true k1
      obtain ⟨t, ht⟩ : ∃ t, S[k]? = some t := ⟨_, List.getElem?_eq_getElem (by have := HR.out.2.1; omega)⟩
      have HK : Hid ((⟨t.n, t.d, k⟩ : K).ok ∧ S[k]? = some t) := by
        have := HR.out.2.2.1 t (List.mem_of_getElem? ht)
        exact ⟨⟨this.n, this.d, this.z⟩, ht⟩
      have HT0 : Hid (∀ wr, Below W.heap.size W wr → wr.cell? ⟨g, k * 3, none⟩ = some (.string ⟨⟨t.nm⟩⟩) ∧ wr.cell? ⟨g, k * 3 + 1, none⟩ = some (.int .u64 t.n) ∧ wr.cell? ⟨g, k * 3 + 2, none⟩ = some (.int .u64 t.d)) := fun wr b => by
        obtain ⟨x0, x1, x2⟩ := HR.out.1.at ht
        exact ⟨keep1c' b x0, keep1c' b x1, keep1c' b x2⟩
      clear ht
      rcases HI.out with ⟨e0, e1, e2, e3, e4⟩ | ⟨hb, hr, cap, e0, e1, e2⟩
      · obtain ⟨x0, x1, x2⟩ := HT0.out _ e4
        have HL : Hid (wr.heap[lb]? = some (.cells #[.slice none 0 0] 69 (0, 0)) ∧ W.heap.size ≤ lb ∧ Below W.heap.size W wr) := ⟨e2, e3, e4⟩
        have E0 : Hid (k = 0) := e0
        clear HI e0 e2 e3 e4 HT0
        obtain ⟨tn, tp, tq⟩ := t
        simp only [] at x0 x1 x2 HK
        subst e1
        go_upto_region 7 with fail
        have B4 : Hid (Below wr.heap.size wr ((wr.alloc (.cells #[.string ⟨⟨tn⟩⟩, .int .u64 tp, .int .u64 tq] 51)).alloc (.cells #[.int .u64 tp, .int .u64 tq, .int .i64 k] 72))) := by
          have b1 : Below wr.heap.size wr (wr.alloc (.cells #[.string ⟨⟨tn⟩⟩, .int .u64 tp, .int .u64 tq] 51)) := (Below.refl _ wr).alloc (Nat.le_refl _) _
          exact b1.alloc b1.size _
        have hN4 := new0 (w := wr.alloc (.cells #[.string ⟨⟨tn⟩⟩, .int .u64 tp, .int .u64 tq] 51)) (o := .cells #[.int .u64 tp, .int .u64 tq, .int .i64 k] 72)
        have hl4 : (wr.alloc (.cells #[.string ⟨⟨tn⟩⟩, .int .u64 tp, .int .u64 tq] 51)).heap.size < ((wr.alloc (.cells #[.string ⟨⟨tn⟩⟩, .int .u64 tp, .int .u64 tq] 51)).alloc (.cells #[.int .u64 tp, .int .u64 tq, .int .i64 k] 72)).heap.size := by simp
        simp only [World.size_alloc] at hN4 hl4
        have N4 : Hid (((wr.alloc (.cells #[.string ⟨⟨tn⟩⟩, .int .u64 tp, .int .u64 tq] 51)).alloc (.cells #[.int .u64 tp, .int .u64 tq, .int .i64 k] 72)).heap[wr.heap.size + 1]? = some (.cells #[.int .u64 tp, .int .u64 tq, .int .i64 k] 72 (0, 0))) := hN4
        obtain ⟨c0, c1, c2⟩ := c3 N4.out
        clear x0 x1 x2 hN4
        generalize (wr.alloc (.cells #[.string ⟨⟨tn⟩⟩, .int .u64 tp, .int .u64 tq] 51)).alloc (.cells #[.int .u64 tp, .int .u64 tq, .int .i64 k] 72) = W4 at *
        generalize wr.heap.size + 1 = kb at *
        have H27 : Hid (Calls Tryz.prog 24 #[.pointer none, .agg #[.int .u64 tp, .int .u64 tq, .int .i64 k]] W4 fun e w' => e = .returned (.tuple #[.int .i64 0, .int .i64 10]) ∧ Hid (Below W4.heap.size W4 w')) := insert_nil tp tq k W4
        go_upto_region 9 with (go_at_call 24; refine H27.out.mono ?_; rintro e w5 ⟨rfl, b5⟩)
        have H28 : Hid (Calls Tryz.prog 25 #[] w5 fun e w' => e = .returned (.pointer (some ⟨w5.heap.size, 0, none⟩)) ∧ w' = w5.alloc (.cells zeroH 98)) := new_at w5
        have N5 : Hid (w5.heap[kb]? = some (.cells #[.int .u64 tp, .int .u64 tq, .int .i64 k] 72 (0, 0)) ∧ w5.heap[lb]? = some (.cells #[.slice none 0 0] 69 (0, 0)) ∧ Below W.heap.size W w5 ∧ W.heap.size ≤ lb) := by
          have h1 := at_below B4.out (Nat.le_refl _) HL.out.1
          have h2 := HL.out.2.2.trans (B4.out.mono HL.out.2.2.size)
          exact ⟨at_below b5.out (Nat.le_refl _) N4.out, at_below b5.out (Nat.le_refl _) h1, h2.trans (b5.out.mono h2.size), HL.out.2.1⟩
        clear H27 HL B4 N4 b5 c0 c1 c2 hl4
        go_upto_region 10 with (go_at_call 25; refine H28.out.mono ?_; rintro e w6 ⟨rfl, h6⟩; obtain rfl := h6.symm)
        have HW : Hid (Lw W (w5.alloc (.cells zeroH 98)) w5.heap.size Ct.nil 0 0 (fun j => j = lb)) := lw_new' N5.out.2.2.1 fun j e => by rw [e]; exact (Array.getElem?_eq_some_iff.1 N5.out.2.1).1
        have B6 : Hid (Below w5.heap.size w5 (w5.alloc (.cells zeroH 98))) := (Below.refl _ w5).alloc (Nat.le_refl _) _
        have N6 := at_below B6.out (Nat.le_refl _) N5.out.1
        obtain ⟨c0, c1, c2⟩ := c3 N6
        have hl6 := (Array.getElem?_eq_some_iff.1 N6).1
        clear H28 h6 N6
        generalize w5.alloc (.cells zeroH 98) = W6 at *
        generalize hhb : w5.heap.size = hb at *
        have H27 : Hid (Calls Tryz.prog 24 #[.pointer (some ⟨hb, 0, none⟩), .agg #[.int .u64 tp, .int .u64 tq, .int .i64 k]] W6 fun e w' => e = .returned (.tuple #[.int .i64 0, .int .i64 0]) ∧ Hid (Lw W w' hb (kC S 1) 1 1 (fun j => j = lb) ∧ w'.heap[lb]? = some (.cells #[.slice none 0 0] 69 (0, 0)) ∧ W.heap.size ≤ lb)) := by
          refine (lw_insert HW.out ⟨tp, tq, k⟩ HK.out.1 (by omega) (by omega)).mono ?_
          rintro e w' ⟨rfl, h1, h2⟩
          obtain rfl := E0.out
          refine ⟨rfl, ?_, (h2 lb rfl).trans (at_below B6.out (by rw [hhb]; exact Nat.le_refl _) N5.out.2.1), N5.out.2.2.2⟩
          rw [kC_succ HK.out.2, kC_zero]
          exact h1
        clear HW B6 N5 hhb
        go_upto_region 11 with (go_at_call 24; refine H27.out.mono ?_; rintro e w7 ⟨rfl, h7⟩)
        obtain ⟨L7, A7, l7⟩ := h7.out
        have HL7 : Hid (Lw W w7 hb (kC S 1) 1 1 (fun j => j = lb) ∧ w7.heap[lb]? = some (.cells #[.slice none 0 0] 69 (0, 0)) ∧ W.heap.size ≤ lb) := h7.out
        have a0 := Lib.cell_of_heap A7 0
        have f0 := fz A7 0
        have hl7 := (Array.getElem?_eq_some_iff.1 A7).1
        have O1 : Hid (GRow 70 1 pC w7.heap.size (w7.alloc (.cells #[.pointer (some ⟨hb, 0, none⟩)] 70)) (.slice none 0 0) []) := GRow.nil _ _ _ _ _
        have Z1 : Hid (w7.heap.size ≤ (w7.alloc (.cells #[.pointer (some ⟨hb, 0, none⟩)] 70)).heap.size) := by show _ ≤ _; simp
        have R1 : Hid (RowV (w7.alloc (.cells #[.pointer (some ⟨hb, 0, none⟩)] 70)) w7.heap.size 0 ([hb].flatMap pC)) := row_one new0 rfl
        have e9 : Hid (0 + 1 ≤ maxLen) := by show _ ≤ _; unfold maxLen; omega
        have e8 : Hid ((0 + 1) * 8 ≤ 140737488355328) := by show _ ≤ _; omega
        clear H27 h7 L7 A7 l7 c0 c1 c2 hl6
        go_wp2_with (at_builtin; refine append_g (B := w7.heap.size) pC_len pC_one Tryz.underlying67 info72 rfl (by decide) rfl _ _ rfl none 0 0 _ rfl O1.out Z1.out w7.heap.size 0 1 1 [hb] rfl rfl R1.out e9.out e8.out ?_; intro p3 cp3 w8 hr8 hb8; have A8 := (hb8.block lb hl7).trans ((at_alloc (o' := .cells #[.pointer (some ⟨hb, 0, none⟩)] 70) HL7.out.2.1)); have f8 := fz A8 0; have a8 : w8.cell? ⟨lb, 0, none⟩ = some (.slice none 0 0) := Lib.cell_of_heap A8 0)
        have A8 := (hb8.block lb hl7).trans ((at_alloc (o' := .cells #[.pointer (some ⟨hb, 0, none⟩)] 70) HL7.out.2.1))
        obtain ⟨hr, e3, hc⟩ := hr8.at pC_len (i := 0) (o := hb) rfl
        subst e3
        have hge := hr8.ge (g := hr) rfl
        have hlt := hr8.lt (g := hr) rfl
        have hcell : w8.cell? ⟨hr, 0, none⟩ = some (.pointer (some ⟨hb, 0, none⟩)) := by have := hc 0 _ rfl; simpa using this
        have b8 : Below w7.heap.size w7 w8 := ((Below.refl _ w7).alloc (Nat.le_refl _) _).trans hb8
        have hlw : Lw W w8 hb (kC S 1) 1 1 (fun j => j = lb ∨ j = hr) := HL7.out.1.more b8 fun j hj => hj.imp id fun e => ⟨by omega, by omega⟩
        refine ⟨⟨k + 1, by simp, by omega, .inr ⟨hb, hr, cp3, by omega, rfl, ?_, ?_, ?_, ?_⟩⟩, by simp [intOf]; omega⟩
        · obtain rfl := E0.out
          exact hlw.set _ _ (.inl rfl) HL7.out.2.2
        · exact setB A8 _
        · have hne : hr ≠ lb := by omega
          unfold World.cell? at hcell ⊢
          rw [Below.heap_setCell _ _ _ _ hne]
          exact hcell
        · have := HL7.out.1.below.size
          exact ⟨HL7.out.2.2, by omega⟩
      · obtain ⟨x0, x1, x2⟩ := HT0.out _ e2.h.below
        have HL : Hid (LnB W wr S k lb hb hr cap) := e2
        clear HI e0 e2 HT0
        obtain ⟨tn, tp, tq⟩ := t
        simp only [] at x0 x1 x2 HK
        subst e1
        go_upto_region 7 with fail
        have B4 : Hid (Below wr.heap.size wr ((wr.alloc (.cells #[.string ⟨⟨tn⟩⟩, .int .u64 tp, .int .u64 tq] 51)).alloc (.cells #[.int .u64 tp, .int .u64 tq, .int .i64 k] 72))) := by
          have b1 : Below wr.heap.size wr (wr.alloc (.cells #[.string ⟨⟨tn⟩⟩, .int .u64 tp, .int .u64 tq] 51)) := (Below.refl _ wr).alloc (Nat.le_refl _) _
          exact b1.alloc b1.size _
        obtain ⟨c0, c1, c2⟩ := c3 (new0 (w := wr.alloc (.cells #[.string ⟨⟨tn⟩⟩, .int .u64 tp, .int .u64 tq] 51)) (o := .cells #[.int .u64 tp, .int .u64 tq, .int .i64 k] 72))
        have hl4 : (wr.alloc (.cells #[.string ⟨⟨tn⟩⟩, .int .u64 tp, .int .u64 tq] 51)).heap.size < ((wr.alloc (.cells #[.string ⟨⟨tn⟩⟩, .int .u64 tp, .int .u64 tq] 51)).alloc (.cells #[.int .u64 tp, .int .u64 tq, .int .i64 k] 72)).heap.size := by simp
        simp only [World.size_alloc] at c0 c1 c2 hl4
        clear x0 x1 x2
        generalize (wr.alloc (.cells #[.string ⟨⟨tn⟩⟩, .int .u64 tp, .int .u64 tq] 51)).alloc (.cells #[.int .u64 tp, .int .u64 tq, .int .i64 k] 72) = W4 at *
        have H27 : Hid (Calls Tryz.prog 24 #[.pointer (some ⟨hb, 0, none⟩), .agg #[.int .u64 tp, .int .u64 tq, .int .i64 k]] W4 fun e w' => e = .returned (.tuple #[.int .i64 k, .int .i64 0]) ∧ Hid (LnR W S lb (k + 1) (.pointer (some ⟨hb, 0, none⟩)) w')) := by
          refine (lw_insert (HL.out.h.keep B4.out) ⟨tp, tq, k⟩ HK.out.1 (by omega) (by omega)).mono ?_
          rintro e w' ⟨rfl, h1, h2⟩
          refine ⟨rfl, .inr ⟨hb, hr, cap, by omega, rfl, ?_, ?_, ?_, HL.out.l⟩⟩
          · rw [kC_succ HK.out.2]; exact h1
          · exact (h2 lb (.inl rfl)).trans (at_below B4.out (Nat.le_refl _) HL.out.a)
          · have q := keep1c' B4.out HL.out.c
            unfold World.cell? at *
            rw [h2 hr (.inr rfl)]
            exact q
        clear HL B4 HK
        go_wp2_with (go_at_call 24; refine H27.out.mono ?_; rintro e w5 ⟨rfl, h5⟩)
        exact ⟨⟨k + 1, by simp, by omega, h5.out⟩, by simp [intOf]; omega⟩
    · have k1 : ¬ (k : Int) < (n : Int) := by omega
      have k2 : decide ((k : Int) < (n : Int)) = false := decide_eq_false k1
      obtain rfl : k = n := by omega
      have HF : Hid (Lin w wr lb (kC S k) k T ∧ Below W.heap.size W wr) := by
        obtain ⟨r1, r2, r3, r4, r5⟩ := HR.out
        rcases HI.out with ⟨rfl, e1, e2, e3, e4⟩ | ⟨hb, hr, cap, e0, e1, e2⟩
        · refine ⟨.inl ⟨rfl, kC_zero S, r4.trans (e4.mono r4.size), fun j hj => Nat.lt_of_lt_of_le (r5 j hj) e4.size, ⟨fun q => ?_, Nat.le_trans r4.size e3⟩, e2⟩, e4⟩
          have := r5 lb q; omega
        · refine ⟨.inr ⟨k, hb, hr, cap, fun j => (j = lb ∨ j = hr) ∨ j < W.heap.size, e2.h.base r4 (fun j q => q), fun j hj => .inr (r5 j hj), ⟨.inl (.inl rfl), fun q => ?_, Nat.le_trans r4.size e2.l.1⟩, ⟨.inl (.inr rfl), fun q => ?_, Nat.le_trans r4.size e2.l.2⟩, e2.a, e2.c⟩, e2.h.below⟩
          · have := r5 lb q; have := e2.l.1; omega
          · have := r5 hr q; have := e2.l.2; omega
      clear HI HR
      go_wp2_with fail
      go_ret
      exact ⟨lb, rfl, HF.out⟩
end Go.Proofs.YtcgaekaollhmpaaGreat
