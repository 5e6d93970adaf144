/-
  foremost, next.
-/
import Derived.Test.YtcgaekaollhmpaaGreatSe
namespace Go.Proofs.YtcgaekaollhmpaaGreat
open Go.RowKit Go.Maps

theorem lw_min {w wr : World} {hb g n : Nat} {C : Ct} {T : Nat → Prop} (h : Lw w wr hb C g n T) (hn : n ≠ 0) : ∃ (x : Nat) (k : K), ∀ w1, Below wr.heap.size wr w1 → Calls Tryz.prog 47 #[.pointer (some ⟨hb, 0, none⟩)] w1 fun e w' => e = .returned (.tuple #[.int .i64 x, .agg #[.int .u64 k.n, .int .u64 k.d, .int .i64 k.t], .int .i64 0]) ∧ Hid (Below w1.heap.size w1 w') := by
  obtain ⟨S, tg, h⟩ := h
  obtain ⟨m, h1, h2, h3⟩ := h.h.least hn
  refine ⟨S.hd m, S.ky m, fun w1 b => ?_⟩
  obtain ⟨m', k1, k2, k3, k4⟩ := min_C (h.h.keep b) hn
  rw [h1] at k1
  cases k1
  exact k4
theorem lw_min0 {w wr : World} {hb g : Nat} {C : Ct} {T : Nat → Prop} (h : Lw w wr hb C g 0 T) : ∀ w1, Below wr.heap.size wr w1 → Calls Tryz.prog 47 #[.pointer (some ⟨hb, 0, none⟩)] w1 fun e w' => e = .returned (.tuple #[.int .i64 0, .agg #[.int .u64 0, .int .u64 0, .int .i64 0], .int .i64 3]) ∧ Hid (Below w1.heap.size w1 w') := by
  obtain ⟨S, tg, h⟩ := h
  intro w1 b
  exact min_zero fun _ b2 => len_C ((h.h.keep b).keep b2)
set_option maxHeartbeats 1000000 in
theorem fore_zero (w : World) (lb : Nat) (hA : w.heap[lb]? = some (.cells #[.slice none 0 0] 69 (0, 0))) : Calls Tryz.prog 26 #[.pointer (some ⟨lb, 0, none⟩)] w fun e w' => e = .returned (.pointer none) ∧ Hid (Below w.heap.size w w') := by
  have b0 : Hid (Below w.heap.size w (w.alloc (.cells #[.int .u64 0, .int .u64 0, .int .i64 0] 72))) := (Below.refl _ w).alloc (Nat.le_refl _) _
  have a0 : (w.alloc (.cells #[.int .u64 0, .int .u64 0, .int .i64 0] 72)).cell? ⟨lb, 0, none⟩ = some (.slice none 0 0) := Lib.cell_of_heap (at_alloc hA) 0
  have hl := (Array.getElem?_eq_some_iff.1 hA).1
  go_enter Tryz.func26, Tryz.ntmps26
  go_upto_region 3 with fail
  generalize w.alloc (.cells #[.int .u64 0, .int .u64 0, .int .i64 0] 72) = W1 at *
  go_wp2_with fail
  refine wp_loop_rounds 1 ?_
  rw [rounds_succ]
  go_wp2_with fail
  go_ret
  exact ⟨rfl, b0.out⟩
set_option maxHeartbeats 2000000 in
set_option maxRecDepth 100000 in
theorem fore_raw (w : World) (lb hr cap hb x : Nat) (k : K) (er : Nat) (he : er = 0 ∨ er = 3) (hA : w.heap[lb]? = some (.cells #[.slice (some ⟨hr, 0, none⟩) 1 cap] 69 (0, 0))) (hc : w.cell? ⟨hr, 0, none⟩ = some (.pointer (some ⟨hb, 0, none⟩)))
    (H50 : Hid (∀ w1, Below w.heap.size w w1 → Calls Tryz.prog 47 #[.pointer (some ⟨hb, 0, none⟩)] w1 fun e w' => e = .returned (.tuple #[.int .i64 x, .agg #[.int .u64 k.n, .int .u64 k.d, .int .i64 k.t], .int .i64 er]) ∧ Hid (Below w1.heap.size w1 w'))) :
    Calls Tryz.prog 26 #[.pointer (some ⟨lb, 0, none⟩)] w fun e w' => e = .returned (if er = 0 then .pointer (some ⟨hb, 0, none⟩) else .pointer none) ∧ Hid (Below w.heap.size w w') := by
  have b0 : Hid (Below w.heap.size w (w.alloc (.cells #[.int .u64 0, .int .u64 0, .int .i64 0] 72))) := (Below.refl _ w).alloc (Nat.le_refl _) _
  have N0 : Hid ((w.alloc (.cells #[.int .u64 0, .int .u64 0, .int .i64 0] 72)).heap[w.heap.size]? = some (.cells #[.int .u64 0, .int .u64 0, .int .i64 0] 72 (0, 0))) := new0
  have a0 : (w.alloc (.cells #[.int .u64 0, .int .u64 0, .int .i64 0] 72)).cell? ⟨lb, 0, none⟩ = some (.slice (some ⟨hr, 0, none⟩) 1 cap) := Lib.cell_of_heap (at_alloc hA) 0
  have a1 := keep1c' b0.out hc
  have H5 : Hid (Calls Tryz.prog 47 #[.pointer (some ⟨hb, 0, none⟩)] (w.alloc (.cells #[.int .u64 0, .int .u64 0, .int .i64 0] 72)) fun e w' => e = .returned (.tuple #[.int .i64 x, .agg #[.int .u64 k.n, .int .u64 k.d, .int .i64 k.t], .int .i64 er]) ∧ Hid (Below (w.alloc (.cells #[.int .u64 0, .int .u64 0, .int .i64 0] 72)).heap.size (w.alloc (.cells #[.int .u64 0, .int .u64 0, .int .i64 0] 72)) w')) := H50.out _ b0.out
  obtain ⟨kn, kd, kt⟩ := k
  simp only [] at H5
  clear H50 hA hc
  go_enter Tryz.func26, Tryz.ntmps26
  go_upto_region 3 with fail
  obtain ⟨lw, hlw⟩ : ∃ lw, lw = w.heap.size := ⟨_, rfl⟩
  rw [← hlw] at N0 ⊢
  have HLW : Hid (lw = w.heap.size) := hlw
  clear hlw
  generalize w.alloc (.cells #[.int .u64 0, .int .u64 0, .int .i64 0] 72) = W1 at *
  go_wp2_with fail
  refine wp_loop_rounds 2 ?_
  rw [rounds_succ]
  go_upto_region 7 with (go_at_call 47; refine H5.out.mono ?_; rintro e w2 ⟨rfl, b2⟩)
  have B3 : Hid (Below W1.heap.size W1 (w2.alloc (.cells #[.int .u64 kn, .int .u64 kd, .int .i64 kt] 72))) := b2.out.alloc b2.out.size _
  have N3 : Hid ((w2.alloc (.cells #[.int .u64 kn, .int .u64 kd, .int .i64 kt] 72)).heap[w2.heap.size]? = some (.cells #[.int .u64 kn, .int .u64 kd, .int .i64 kt] 72 (0, 0))) := new0
  have N4 := at_below B3.out (Nat.le_refl _) N0.out
  clear b2 H5 a0 a1
  generalize w2.alloc (.cells #[.int .u64 kn, .int .u64 kd, .int .i64 kt] 72) = W3 at *
  generalize w2.heap.size = kb at *
  obtain ⟨c0, c1, c2⟩ := c3 N3.out
  obtain ⟨d0, d1, d2⟩ := c3 N4
  obtain ⟨f0, f1, f2⟩ := f3 N4
  have hk3 := (Array.getElem?_eq_some_iff.1 N3.out).1
  have hk4 := (Array.getElem?_eq_some_iff.1 N4).1
  have HB : Hid (Below w.heap.size w W3) := b0.out.trans (B3.out.mono b0.out.size)
  clear N4
  rcases he with rfl | rfl
  · go_upto_region 8 with fail
    have hlw := HLW.out
    have HB2 : Hid (lw = w.heap.size) := HLW.out
    clear hlw HLW
    go_region
    all_goals go_wp2_with fail
    all_goals rw [rounds_succ]
    all_goals go_wp2_with fail
    all_goals go_ret
    all_goals (refine ⟨rfl, ?_⟩; have := HB2.out; subst this; show Below _ _ _; go_grown; exact HB.out)
  · go_wp2_with fail
    rw [rounds_succ]
    go_wp2_with fail
    go_ret
    exact ⟨rfl, HB.out⟩
section
variable {w wr : World} {lb n : Nat} {C : Ct} {T : Nat → Prop}
theorem fore_any (h : Lin w wr lb C n T) (hn : n ≠ 0) : ∃ g hb hr cap T', LinA w wr lb C g n T hb hr cap T' ∧ Calls Tryz.prog 26 #[.pointer (some ⟨lb, 0, none⟩)] wr fun e w' => e = .returned (.pointer (some ⟨hb, 0, none⟩)) ∧ Hid (Below wr.heap.size wr w') := by
  rcases h with ⟨h1, h2, h⟩ | ⟨g, hb, hr, cap, T', h⟩
  · exact absurd h1 hn
  · obtain ⟨x, k, hk⟩ := lw_min h.h hn
    exact ⟨g, hb, hr, cap, T', h, fore_raw wr lb hr cap hb x k 0 (.inl rfl) h.a h.c hk⟩
theorem fore_no (h : Lin w wr lb C 0 T) : Calls Tryz.prog 26 #[.pointer (some ⟨lb, 0, none⟩)] wr fun e w' => e = .returned (.pointer none) ∧ Hid (Below wr.heap.size wr w') := by
  rcases h with ⟨h1, h2, h⟩ | ⟨g, hb, hr, cap, T', h⟩
  · exact fore_zero wr lb h.a
  · exact fore_raw wr lb hr cap hb 0 ⟨0, 0, 0⟩ 3 (.inr rfl) h.a h.c (lw_min0 h.h)
set_option maxHeartbeats 1000000 in
theorem next_raw (w : World) (lb : Nat) (p : Option Addr) (x : Nat) (k : K) (er : Nat) (R : World → Prop) (hR : Hid (∀ w1 w2, R w1 → Below w1.heap.size w1 w2 → R w2)) (H29 : Hid (Calls Tryz.prog 26 #[.pointer (some ⟨lb, 0, none⟩)] w fun e w' => e = .returned (.pointer p) ∧ Hid (Below w.heap.size w w')))
    (H30 : Hid (∀ w1, Below w.heap.size w w1 → Calls Tryz.prog 27 #[.pointer p] w1 fun e w' => e = .returned (.tuple #[.int .i64 x, .agg #[.int .u64 k.n, .int .u64 k.d, .int .i64 k.t], .int .i64 er]) ∧ Hid (R w'))) :
    Calls Tryz.prog 12 #[.pointer (some ⟨lb, 0, none⟩)] w fun e w' => e = .returned (.tuple #[.int .i64 k.t, .int .i64 er]) ∧ Hid (R w') := by
  obtain ⟨kn, kd, kt⟩ := k
  simp only [] at H30 ⊢
  go_enter Tryz.func12, Tryz.ntmps12
  go_wp2_with (first
    | (go_at_call 26; refine H29.out.mono ?_; rintro e w1 ⟨rfl, b1⟩)
    | (go_at_call 27; refine (H30.out _ b1.out).mono ?_; rintro e w2 ⟨rfl, h2⟩))
  go_ret2
  exact ⟨rfl, hR.out _ _ h2.out ((Below.refl _ _).alloc (Nat.le_refl _) _)⟩
theorem LinA.pop {wr' : World} {g hb hr cap : Nat} {T' : Nat → Prop} {C' : Ct} {n' : Nat} (h : LinA w wr lb C g n T hb hr cap T') (hl : Lw w wr' hb C' g n' T') (hk : ∀ j, T' j → wr'.heap[j]? = wr.heap[j]?) : LinA w wr' lb C' g n' T hb hr cap T' :=
  ⟨hl, h.s, h.l, h.r, (hk lb h.l.1).trans h.a, by
    have := h.c
    unfold World.cell? at *
    rw [hk hr h.r.1]
    exact this⟩
theorem LinA.keep {wr' : World} {g hb hr cap : Nat} {T' : Nat → Prop} (h : LinA w wr lb C g n T hb hr cap T') (b : Below wr.heap.size wr wr') : LinA w wr' lb C g n T hb hr cap T' :=
  ⟨h.h.keep b, h.s, h.l, h.r, at_below b (Nat.le_refl _) h.a, keep1c' b h.c⟩
theorem Lin.lt (h : Lin w wr lb C n T) : ∀ j, T j → j < wr.heap.size := by
  rcases h with ⟨h1, h2, h⟩ | ⟨g, hb, hr, cap, T', h⟩
  · exact h.t
  · obtain ⟨S, tg, q⟩ := h.h
    exact fun j hj => (q.u j (h.s j hj)).1
theorem next_any (h : Lin w wr lb C n T) (hn : n ≠ 0) (h2 : n ≤ 2000) : ∃ (x : Nat) (k : K), C.min x k ∧ Calls Tryz.prog 12 #[.pointer (some ⟨lb, 0, none⟩)] wr fun e w' => e = .returned (.tuple #[.int .i64 k.t, .int .i64 0]) ∧ Hid (Lin w w' lb (C.del x) (n - 1) T ∧ ∀ j, T j → w'.heap[j]? = wr.heap[j]?) := by
  have hT := h.lt
  obtain ⟨g, hb, hr, cap, T', hL, hf⟩ := fore_any h hn
  obtain ⟨x, k, m1, m2, -⟩ := lw_pop hL.h hn h2
  refine ⟨x, k, m1, next_raw wr lb _ x k 0 (fun w' => Lin w w' lb (C.del x) (n - 1) T ∧ ∀ j, T j → w'.heap[j]? = wr.heap[j]?) (fun w1 w2 r b => ?_) hf fun w1 b => ?_⟩
  · refine ⟨?_, fun j hj => ?_⟩
    · exact r.1.more b fun j hj => .inl hj
    · exact (b.block j (r.1.lt j hj)).trans (r.2 j hj)
  · obtain ⟨x', k', n1, n2, n3⟩ := lw_pop (hL.h.keep b) hn h2
    have e : x' = x ∧ k' = k := by
      rcases m1.2 x' k' n1.1 with q | q
      · subst q
        have := m1.1
        rw [n1.1] at this
        exact ⟨rfl, Option.some.inj this⟩
      · rcases n1.2 x k m1.1 with q2 | q2
        · subst q2
          have := m1.1
          rw [n1.1] at this
          exact ⟨rfl, Option.some.inj this⟩
        · exact absurd q2 (el_asymm q)
    obtain ⟨rfl, rfl⟩ := e
    refine n3.mono ?_
    rintro e w' ⟨rfl, p1, p2⟩
    refine ⟨rfl, .inr ⟨g, hb, hr, cap, T', (hL.keep b).pop p1 p2⟩, fun j hj => (p2 j (hL.s j hj)).trans (b.block j (hT j hj))⟩
theorem next_no (h : Lin w wr lb C 0 T) : Calls Tryz.prog 12 #[.pointer (some ⟨lb, 0, none⟩)] wr fun e w' => e = .returned (.tuple #[.int .i64 0, .int .i64 3]) ∧ Hid (Below wr.heap.size wr w') :=
  next_raw wr lb none 0 ⟨0, 0, 0⟩ 3 (fun w' => Below wr.heap.size wr w') (fun _ _ r b => r.trans (b.mono r.size)) (fore_no h) fun w1 b => (pop_nil w1).mono fun _ _ ⟨h1, h2⟩ => ⟨h1, b.trans (h2.mono b.size)⟩
end
end Go.Proofs.YtcgaekaollhmpaaGreat
