/-
  The document's before.
-/
import Derived.Test.YtcgaekaollhmpaaGreatTa
namespace Go.Proofs.YtcgaekaollhmpaaGreat
open Go.RowKit Go.Maps

set_option maxHeartbeats 2000000 in
set_option maxRecDepth 100000 in
theorem rbefore_any (all : Vs.V) (a b : U) (w : World) (ha : er all a = 0) (hb : er all b = 0) :
    Calls Tryz.prog 30 #[.agg #[.int .i64 all.a, .int .i64 all.b, .int .i64 all.c, .int .i64 all.d], .agg #[.string ⟨⟨a.nm⟩⟩, .int .i64 a.wt, .int .i64 a.v.a, .int .i64 a.v.b, .int .i64 a.v.c, .int .i64 a.v.d], .agg #[.string ⟨⟨b.nm⟩⟩, .int .i64 b.wt, .int .i64 b.v.a, .int .i64 b.v.b, .int .i64 b.v.c, .int .i64 b.v.d]] w fun e w' => e = .returned (.bool (bfT (ten all a) (ten all b))) ∧ Below w.heap.size w w' := by
  have ka := ten_ok ha
  have kb := ten_ok hb
  obtain ⟨an, ad, hsa⟩ : ∃ an ad, sh all a = (an, ad, 0) := ⟨(sh all a).1, (sh all a).2.1, by unfold er at ha; rw [← ha]⟩
  obtain ⟨bn, bd, hsb⟩ : ∃ bn bd, sh all b = (bn, bd, 0) := ⟨(sh all b).1, (sh all b).2.1, by unfold er at hb; rw [← hb]⟩
  have HT : Hid (ten all a = ⟨a.nm, an, ad⟩ ∧ ten all b = ⟨b.nm, bn, bd⟩) := by unfold ten; rw [hsa, hsb]; exact ⟨rfl, rfl⟩
  rw [HT.out.1] at ka
  rw [HT.out.2] at kb
  have Ha : Hid (∀ W, Calls Tryz.prog 29 #[.agg #[.int .i64 a.v.a, .int .i64 a.v.b, .int .i64 a.v.c, .int .i64 a.v.d], .agg #[.int .i64 all.a, .int .i64 all.b, .int .i64 all.c, .int .i64 all.d], .int .i64 a.wt] W fun e w' => e = .returned (.tuple #[.agg #[.int .u64 an, .int .u64 ad], .int .i64 0]) ∧ Hid (Below W.heap.size W w')) := fun W => by
    have := Vs.rshare_any a.v all a.wt W
    unfold sh at hsa
    rw [hsa] at this
    exact this
  have Hb : Hid (∀ W, Calls Tryz.prog 29 #[.agg #[.int .i64 b.v.a, .int .i64 b.v.b, .int .i64 b.v.c, .int .i64 b.v.d], .agg #[.int .i64 all.a, .int .i64 all.b, .int .i64 all.c, .int .i64 all.d], .int .i64 b.wt] W fun e w' => e = .returned (.tuple #[.agg #[.int .u64 bn, .int .u64 bd], .int .i64 0]) ∧ Hid (Below W.heap.size W w')) := fun W => by
    have := Vs.rshare_any b.v all b.wt W
    unfold sh at hsb
    rw [hsb] at this
    exact this
  have Hc : Hid (∀ W, Calls Tryz.prog 53 #[.agg #[.int .u64 an, .int .u64 ad], .agg #[.int .u64 bn, .int .u64 bd]] W fun e w' => e = .returned (.tuple #[.int .i64 (Q.ord (an * bd) (bn * ad)), .int .i64 0]) ∧ Hid (Below W.heap.size W w')) := fun W => by
    have := rcmp_any an ad bn bd W ka.n ka.d kb.n kb.d
    unfold Q.cmpR at this
    rw [if_neg (by rintro (q | q); exact ka.z q; exact kb.z q)] at this
    exact this
  have HA : Hid (er all a = 0 ∧ er all b = 0) := ⟨ha, hb⟩
  clear hsa hsb ka kb ha hb
  obtain ⟨l0, l1, l2, l3⟩ := all
  obtain ⟨nm1, w1, ⟨a0, a1, a2, a3⟩⟩ := a
  obtain ⟨nm2, w2, ⟨b0, b1, b2, b3⟩⟩ := b
  simp only [] at Ha Hb HT ⊢
  rw [HT.out.1, HT.out.2]
  clear HT HA
  go_enter Tryz.func30, Tryz.ntmps30
  go_upto_region 1 with fail
  obtain ⟨W1, hW1⟩ : ∃ W1, W1 = ((w.alloc (.cells #[.int .i64 l0, .int .i64 l1, .int .i64 l2, .int .i64 l3] 23)).alloc (.cells #[.string ⟨⟨nm1⟩⟩, .int .i64 w1, .int .i64 a0, .int .i64 a1, .int .i64 a2, .int .i64 a3] 53)).alloc (.cells #[.string ⟨⟨nm2⟩⟩, .int .i64 w2, .int .i64 b0, .int .i64 b1, .int .i64 b2, .int .i64 b3] 53) := ⟨_, rfl⟩
  have G1 : Hid (W1.heap[w.heap.size]? = some (.cells #[.int .i64 l0, .int .i64 l1, .int .i64 l2, .int .i64 l3] 23 (0, 0)) ∧ W1.heap[w.heap.size + 1]? = some (.cells #[.string ⟨⟨nm1⟩⟩, .int .i64 w1, .int .i64 a0, .int .i64 a1, .int .i64 a2, .int .i64 a3] 53 (0, 0)) ∧ W1.heap[w.heap.size + 1 + 1]? = some (.cells #[.string ⟨⟨nm2⟩⟩, .int .i64 w2, .int .i64 b0, .int .i64 b1, .int .i64 b2, .int .i64 b3] 53 (0, 0)) ∧ Below w.heap.size w W1) := by
    subst hW1
    have q1 : Below w.heap.size w (w.alloc (.cells #[.int .i64 l0, .int .i64 l1, .int .i64 l2, .int .i64 l3] 23)) := (Below.refl _ w).alloc (Nat.le_refl _) _
    have q2 := q1.alloc q1.size (.cells #[.string ⟨⟨nm1⟩⟩, .int .i64 w1, .int .i64 a0, .int .i64 a1, .int .i64 a2, .int .i64 a3] 53)
    exact ⟨at_alloc (at_alloc new0), at_alloc new1, first2, q2.alloc q2.size _⟩
  rw [← hW1]
  clear hW1
  generalize w.heap.size + 1 + 1 = gb at *
  generalize w.heap.size + 1 = ga at *
  obtain ⟨gw, hgw⟩ : ∃ gw, gw = w.heap.size := ⟨_, rfl⟩
  rw [← hgw]
  have G2 : Hid (W1.heap[gw]? = some (.cells #[.int .i64 l0, .int .i64 l1, .int .i64 l2, .int .i64 l3] 23 (0, 0))) := by rw [hgw]; exact G1.out.1
  clear hgw
  obtain ⟨c0, c1, c2, c3'⟩ := c4b G2.out
  obtain ⟨x0, x1, x2, x3, x4, x5⟩ := c6b G1.out.2.1
  go_upto_region 2 with (go_at_call 29; refine (Ha.out _).mono ?_; rintro e v1 ⟨rfl, k1⟩)
  obtain ⟨W2, hW2⟩ : ∃ W2, W2 = v1.alloc (.cells #[.int .u64 an, .int .u64 ad] 77) := ⟨_, rfl⟩
  have B2 : Hid (Below W1.heap.size W1 W2 ∧ W2.heap[v1.heap.size]? = some (.cells #[.int .u64 an, .int .u64 ad] 77 (0, 0))) := by subst hW2; exact ⟨k1.out.alloc k1.out.size _, new0⟩
  rw [← hW2]
  clear hW2 c0 c1 c2 c3' x0 x1 x2 x3 x4 x5 k1 Ha
  generalize v1.heap.size = r1 at *
  obtain ⟨c0, c1, c2, c3'⟩ := c4b (at_below B2.out.1 (Nat.le_refl _) G2.out)
  obtain ⟨x0, x1, x2, x3, x4, x5⟩ := c6b (at_below B2.out.1 (Nat.le_refl _) G1.out.2.2.1)
  go_upto_region 3 with (go_at_call 29; refine (Hb.out _).mono ?_; rintro e v2 ⟨rfl, k2⟩)
  obtain ⟨W3, hW3⟩ : ∃ W3, W3 = v2.alloc (.cells #[.int .u64 bn, .int .u64 bd] 77) := ⟨_, rfl⟩
  have B3 : Hid (Below W2.heap.size W2 W3 ∧ W3.heap[v2.heap.size]? = some (.cells #[.int .u64 bn, .int .u64 bd] 77 (0, 0))) := by subst hW3; exact ⟨k2.out.alloc k2.out.size _, new0⟩
  rw [← hW3]
  clear hW3 c0 c1 c2 c3' x0 x1 x2 x3 x4 x5 k2 Hb
  generalize v2.heap.size = r2 at *
  obtain ⟨y0, y1⟩ := c2b (at_below B3.out.1 (Nat.le_refl _) B2.out.2)
  obtain ⟨z0, z1⟩ := c2b B3.out.2
  go_upto_region 4 with (go_at_call 53; refine (Hc.out _).mono ?_; rintro e v3 ⟨rfl, k3⟩)
  have b12 := B2.out.1.trans (B3.out.1.mono B2.out.1.size)
  have b13 := b12.trans (k3.out.mono b12.size)
  have HB : Hid (Below w.heap.size w v3) := G1.out.2.2.2.trans (b13.mono G1.out.2.2.2.size)
  have x0 := Lib.cell_of_heap (at_below b13 (Nat.le_refl _) G1.out.2.1) 0
  have x1 := Lib.cell_of_heap (at_below b13 (Nat.le_refl _) G1.out.2.2.1) 0
  simp only [List.getElem?_toArray, List.getElem?_cons_zero] at x0 x1
  clear y0 y1 z0 z1 k3 Hc b12 b13 B2 B3 G1 G2
  have hlb := less_before nm1 nm2
  rcases Q.ord_cases (an * bd) (bn * ad) with ⟨o1, o2⟩ | ⟨o1, o2⟩ | ⟨o1, o2⟩
  · rw [o1]
    go_wp2_with fail
    go_ret
    refine ⟨ret_b ?_, HB.out⟩
    unfold bfT
    simp [o2]
  · rw [o1]
    go_wp2_with fail
    go_ret
    refine ⟨ret_b ?_, HB.out⟩
    unfold bfT
    simp [o2, ← hlb]
  · rw [o1]
    go_wp2_with fail
    go_ret
    refine ⟨ret_b ?_, HB.out⟩
    unfold bfT
    have q1 : ¬ an * bd < bn * ad := by omega
    have q2 : ¬ an * bd = bn * ad := by omega
    simp [q1, q2]
end Go.Proofs.YtcgaekaollhmpaaGreat
