/-
  tell, outer, Min, Max.
-/
import Derived.Test.YtbaffgkopgbknaaNl
namespace Go.Proofs.Ytbaffgkopgbknaa
open Go.RowKit Go.Maps

theorem keep1c' {w w1 : World} {g o : Nat} {v : Value} (b : Below w.heap.size w w1) (h : w.cell? ⟨g, o, none⟩ = some v) : w1.cell? ⟨g, o, none⟩ = some v := by
  have hg : g < w.heap.size := by
    unfold World.cell? at h
    by_cases q : g < w.heap.size
    · exact q
    · rw [Array.getElem?_eq_none (show w.heap.size ≤ g by omega)] at h; cases h
  rw [← h]
  exact b.cell (p := ⟨g, o, none⟩) hg
theorem En.below {w w1 : World} {x h : Nat} {k : K} (e : En w x k h) (b : Below w.heap.size w w1) : En w1 x k h := ⟨keep1c' b e.h, keep1c' b e.a, keep1c' b e.b, keep1c' b e.c⟩
set_option maxHeartbeats 400000 in
theorem tell_nil (w : World) : Calls Try.prog 34 #[.pointer none] w fun e w' => e = .returned (.tuple #[.int .i64 0, .agg #[.int .i64 0, .int .i64 0, .int .i64 0], .int .i64 3]) ∧ Below w.heap.size w w' := by
  go_enter Try.func34, Try.ntmps34
  go_wp2_with fail
  refine bodyPost_ret (v := .tuple #[.int .i64 0, .agg #[.int .i64 0, .int .i64 0, .int .i64 0], .int .i64 3]) (by rw [results_tct rfl]; go_simp) rfl ?_
  exact ⟨rfl, by go_grown⟩
set_option maxHeartbeats 1000000 in
theorem tell_at (w : World) (b x : Nat) (k : K) (E : Hid (En w b k x)) : Calls Try.prog 34 #[.pointer (some ⟨b, 0, none⟩)] w fun e w' => e = .returned (.tuple #[.int .i64 x, .agg #[.int .i64 k.a, .int .i64 k.b, .int .i64 k.c], .int .i64 0]) ∧ Below w.heap.size w w' := by
  go_enter Try.func34, Try.ntmps34
  go_upto_region 3 with fail
  have G0 : Hid ((w.alloc (.cells #[.int .i64 0, .int .i64 0, .int .i64 0] 32)).heap[w.heap.size]? = some (.cells #[.int .i64 0, .int .i64 0, .int .i64 0] 32 (0, 0))) := new0
  have B0 : Hid (Below w.heap.size w (w.alloc (.cells #[.int .i64 0, .int .i64 0, .int .i64 0] 32))) := by unfold Hid; go_grown
  obtain ⟨h0, h1, h2, h3⟩ := E.out.below B0.out
  obtain ⟨c0, c1, c2⟩ := c3 G0.out
  obtain ⟨f0, f1, f2⟩ := f3 G0.out
  generalize w.alloc (.cells #[.int .i64 0, .int .i64 0, .int .i64 0] 32) = W at *
  go_region
  all_goals go_wp2_with fail
  all_goals refine bodyPost_ret (v := .tuple #[.int .i64 x, .agg #[.int .i64 k.a, .int .i64 k.b, .int .i64 k.c], .int .i64 0]) (by rw [results_tct rfl]; go_simp) rfl ?_
  all_goals exact ⟨rfl, by go_grown; exact B0.out⟩
set_option maxHeartbeats 400000 in
theorem outer_zero (w : World) (v : Value) (s : Int) (H16 : Hid (Calls Try.prog 16 #[v] w fun e w' => e = .returned (.int .i64 0) ∧ w' = w)) : Calls Try.prog 35 #[v, .int .i64 s] w fun e w' => e = .returned (.pointer none) ∧ w' = w := by
  go_enter Try.func35, Try.ntmps35
  go_wp2_with (go_at_call 16; refine H16.out.mono ?_; rintro e w1 ⟨rfl, rfl⟩)
  go_ret
  exact ⟨rfl, rfl⟩
set_option maxHeartbeats 400000 in
theorem outer_raw (w : World) (hb g n c i b s : Nat) (H16 : Hid (Calls Try.prog 16 #[.pointer (some ⟨hb, 0, none⟩)] w fun e w' => e = .returned (.int .i64 n) ∧ w' = w)) (c2 : w.cell? ⟨hb, 2, none⟩ = some (.slice (some ⟨g, 0, none⟩) n c)) (hi : i < n) (ci : w.cell? ⟨g, i, none⟩ = some (.pointer (some ⟨b, 0, none⟩)))
    (H39 : Hid (∀ m, Calls Try.prog 39 #[.pointer (some ⟨hb, 0, none⟩), .int .i64 0, .int .i64 s] (w.drewN m) fun e w' => e = .returned (.int .i64 i) ∧ w' = w.drewN m)) :
    Calls Try.prog 35 #[.pointer (some ⟨hb, 0, none⟩), .int .i64 s] w fun e w' => e = .returned (.pointer (some ⟨b, 0, none⟩)) ∧ ∃ m, w' = w.drewN m := by
  have hi' : (i : Int) < (n : Int) := by omega
  have hn' : ¬ (n : Int) = 0 := by omega
  go_enter Try.func35, Try.ntmps35
  go_upto_region 3 with (go_at_call 16; refine H16.out.mono ?_; rintro e w1 ⟨rfl, rfl⟩)
  go_quiet ((go_at_call 39; exact Calls.quiet_of_same (H39.out _)))
  go_wp2_with fail
  go_ret
  exact ⟨rfl, _, rfl⟩
/-- the entry at one end -/
def Ct.ext (C : Ct) (s x : Nat) (k : K) : Prop := C x = some k ∧ ∀ (y : Nat) (k' : K), C y = some k' → sg s (enc k x) ≤ sg s (enc k' y)
section
variable {w w' : World} {hb g n s : Nat} {C : Ct} {S S' : HS} {k : K}
theorem outer_C (h : Hc w hb C g n S) (hs : s ≤ 1) (hn : n ≠ 0) : ∃ i b : Nat, S.l[i]? = some b ∧ C.ext s (S.hd b) (S.ky b) ∧ Calls Try.prog 35 #[.pointer (some ⟨hb, 0, none⟩), .int .i64 s] w fun e w' => e = .returned (.pointer (some ⟨b, 0, none⟩)) ∧ ∃ m, w' = w.drewN m := by
  have hl := h.n
  have hi : P S.l.length s 0 < S.l.length := P_lt (by omega)
  have si := some_of hi
  obtain ⟨gb, c, e⟩ := h.h.m.fm.row (by rintro q; rw [q] at hl; exact hn hl.symm)
  have hF := h.h.m.fm
  rw [e] at hF
  refine ⟨_, _, si, ⟨?_, fun y k' q => ?_⟩, outer_raw w hb gb S.l.length c _ _ s ?_ (by rw [h.h.m.c2, e]) hi (hF.cell si).1 (fun m => ?_)⟩
  · rw [← h.c]; exact cont_mem h.h.hu (List.mem_of_getElem? si)
  · rw [← h.c] at q
    obtain ⟨b, k1, k2, k3⟩ := cont_some q
    obtain ⟨j, hj⟩ := List.getElem?_of_mem k1
    have hjl := (List.getElem?_eq_some_iff.1 hj).1
    have hv := vv_least h.h.v hjl
    have e2 : S.v j = enc k' y := by
      unfold HS.v HS.en
      rw [getD_of hj, k3]
      congr 1
      omega
    rw [e2] at hv
    rcases (by omega : s = 0 ∨ s = 1) with rfl | rfl
    · rw [show P S.l.length 0 0 = 0 by unfold P; omega]
      exact hv.1
    · unfold sg
      rw [if_neg (by decide), if_neg (by decide)]
      have := hv.2
      unfold HS.v HS.en at this
      omega
  · have := len_C h
    rw [← hl] at this
    exact this
  · have := end_S (p := 0) (h.h.m.drew m) (by omega) hs
    exact this
end
set_option maxHeartbeats 400000 in
theorem min_raw (w : World) (v r : Value) (x e : Int) (k : K) (H35 : Hid (∀ w1, Below w.heap.size w w1 → Calls Try.prog 35 #[v, .int .i64 0] w1 fun q w' => q = .returned r ∧ ∃ m, w' = w1.drewN m)) (H34 : Hid (∀ w1, Below w.heap.size w w1 → Calls Try.prog 34 #[r] w1 fun q w' => q = .returned (.tuple #[.int .i64 x, .agg #[.int .i64 k.a, .int .i64 k.b, .int .i64 k.c], .int .i64 e]) ∧ Below w1.heap.size w1 w')) :
    Calls Try.prog 19 #[v] w fun q w' => q = .returned (.tuple #[.int .i64 x, .agg #[.int .i64 k.a, .int .i64 k.b, .int .i64 k.c], .int .i64 e]) ∧ Below w.heap.size w w' := by
  go_enter Try.func19, Try.ntmps19
  go_upto_region 1 with fail
  have G0 : Hid ((w.alloc (.cells #[.int .i64 0, .int .i64 0, .int .i64 0] 32)).heap[w.heap.size]? = some (.cells #[.int .i64 0, .int .i64 0, .int .i64 0] 32 (0, 0))) := new0
  have B0 : Hid (Below w.heap.size w (w.alloc (.cells #[.int .i64 0, .int .i64 0, .int .i64 0] 32))) := by unfold Hid; go_grown
  generalize w.alloc (.cells #[.int .i64 0, .int .i64 0, .int .i64 0] 32) = W at *
  have H5 := H35.out W B0.out
  have H4 : Hid (∀ m, Calls Try.prog 34 #[r] (W.drewN m) fun q w' => q = .returned (.tuple #[.int .i64 x, .agg #[.int .i64 k.a, .int .i64 k.b, .int .i64 k.c], .int .i64 e]) ∧ Hid (Below w.heap.size w w' ∧ w'.heap[w.heap.size]? = some (.cells #[.int .i64 0, .int .i64 0, .int .i64 0] 32 (0, 0)))) := fun m => by
    refine (H34.out (W.drewN m) (below_drewN B0.out m)).mono ?_
    rintro q w' ⟨rfl, b⟩
    have b' : Below W.heap.size W w' := ⟨b.os, b.tape, b.output, b.size, b.block⟩
    exact ⟨rfl, B0.out.trans (b'.mono B0.out.size), at_below b' (Nat.le_refl _) G0.out⟩
  clear H35 H34
  go_wp2_with (first | (go_at_call 35; refine H5.mono ?_; first | rintro q w1 rfl m rfl | rintro q w1 ⟨rfl, m, rfl⟩) | (go_at_call 34; refine (H4.out _).mono ?_; (first | rintro q w2 rfl h2 | rintro q w2 ⟨rfl, h2⟩); obtain ⟨c0, c1, c2⟩ := c3 h2.out.2; obtain ⟨f0, f1, f2⟩ := f3 h2.out.2))
  refine bodyPost_ret (v := .tuple #[.int .i64 x, .agg #[.int .i64 k.a, .int .i64 k.b, .int .i64 k.c], .int .i64 e]) (by rw [results_tct rfl]; go_simp) rfl ?_
  exact ⟨rfl, by go_grown; exact h2.out.1⟩
set_option maxHeartbeats 400000 in
theorem max_raw (w : World) (v r : Value) (x e : Int) (k : K) (H35 : Hid (∀ w1, Below w.heap.size w w1 → Calls Try.prog 35 #[v, .int .i64 1] w1 fun q w' => q = .returned r ∧ ∃ m, w' = w1.drewN m)) (H34 : Hid (∀ w1, Below w.heap.size w w1 → Calls Try.prog 34 #[r] w1 fun q w' => q = .returned (.tuple #[.int .i64 x, .agg #[.int .i64 k.a, .int .i64 k.b, .int .i64 k.c], .int .i64 e]) ∧ Below w1.heap.size w1 w')) :
    Calls Try.prog 20 #[v] w fun q w' => q = .returned (.tuple #[.int .i64 x, .agg #[.int .i64 k.a, .int .i64 k.b, .int .i64 k.c], .int .i64 e]) ∧ Below w.heap.size w w' := by
  go_enter Try.func20, Try.ntmps20
  go_upto_region 1 with fail
  have G0 : Hid ((w.alloc (.cells #[.int .i64 0, .int .i64 0, .int .i64 0] 32)).heap[w.heap.size]? = some (.cells #[.int .i64 0, .int .i64 0, .int .i64 0] 32 (0, 0))) := new0
  have B0 : Hid (Below w.heap.size w (w.alloc (.cells #[.int .i64 0, .int .i64 0, .int .i64 0] 32))) := by unfold Hid; go_grown
  generalize w.alloc (.cells #[.int .i64 0, .int .i64 0, .int .i64 0] 32) = W at *
  have H5 := H35.out W B0.out
  have H4 : Hid (∀ m, Calls Try.prog 34 #[r] (W.drewN m) fun q w' => q = .returned (.tuple #[.int .i64 x, .agg #[.int .i64 k.a, .int .i64 k.b, .int .i64 k.c], .int .i64 e]) ∧ Hid (Below w.heap.size w w' ∧ w'.heap[w.heap.size]? = some (.cells #[.int .i64 0, .int .i64 0, .int .i64 0] 32 (0, 0)))) := fun m => by
    refine (H34.out (W.drewN m) (below_drewN B0.out m)).mono ?_
    rintro q w' ⟨rfl, b⟩
    have b' : Below W.heap.size W w' := ⟨b.os, b.tape, b.output, b.size, b.block⟩
    exact ⟨rfl, B0.out.trans (b'.mono B0.out.size), at_below b' (Nat.le_refl _) G0.out⟩
  clear H35 H34
  go_wp2_with (first | (go_at_call 35; refine H5.mono ?_; first | rintro q w1 rfl m rfl | rintro q w1 ⟨rfl, m, rfl⟩) | (go_at_call 34; refine (H4.out _).mono ?_; (first | rintro q w2 rfl h2 | rintro q w2 ⟨rfl, h2⟩); obtain ⟨c0, c1, c2⟩ := c3 h2.out.2; obtain ⟨f0, f1, f2⟩ := f3 h2.out.2))
  refine bodyPost_ret (v := .tuple #[.int .i64 x, .agg #[.int .i64 k.a, .int .i64 k.b, .int .i64 k.c], .int .i64 e]) (by rw [results_tct rfl]; go_simp) rfl ?_
  exact ⟨rfl, by go_grown; exact h2.out.1⟩
section
variable {w w' w1 w3 : World} {hb g n s g' n' : Nat} {C C' : Ct} {S S' : HS} {k : K}
theorem box_at (h : Hc w hb C g n S) (hC : Chg hb S S' w1 w') : ∀ k o, w.heap.size ≤ k → w1.heap[k]? = some o → w'.heap[k]? = some o := fun k o h1 h2 =>
  (hC.kp.block k (Array.getElem?_eq_some_iff.1 h2).1 fun q => by have := h.h.lt k q; omega).trans h2
theorem box_keep (h : Hc w hb C g n S) (b : Below w.heap.size w w1) (hC : Chg hb S S' w1 w') (hH : Hc w' hb C' g' n' S') (k3 : Kp (fun k => w.heap.size ≤ k ∧ k < w1.heap.size) w' w3) : Hc w3 hb C' g' n' S' ∧ Chg hb S S' w w3 := by
  have hb1 := b.size
  refine ⟨hH.keep fun k q => k3.block k (hH.h.lt k q) fun q' => ?_, ((Kp.of_below (S := Fp hb S) b).trans hC.kp fun _ _ h => h).trans k3 fun k hk q => by omega, fun k q => ?_⟩
  · rcases hC.fp k q with q | q
    · have := h.h.lt k q; omega
    · omega
  · rcases hC.fp k q with q | q
    · exact .inl q
    · exact .inr (by omega)
end
set_option maxHeartbeats 1000000 in
theorem pop_raw (w : World) (hb b x s : Nat) (k : K) (R : World → Prop) (H35 : Hid (∀ w1, Below w.heap.size w w1 → Calls Try.prog 35 #[.pointer (some ⟨hb, 0, none⟩), .int .i64 s] w1 fun q w' => q = .returned (.pointer (some ⟨b, 0, none⟩)) ∧ ∃ m, w' = w1.drewN m))
    (H36 : Hid (∀ w2, Below w.heap.size w w2 → Calls Try.prog 36 #[.pointer (some ⟨hb, 0, none⟩), .pointer (some ⟨b, 0, none⟩)] w2 fun q w' => q = .returned (.tuple #[]) ∧ Hid ((∀ g o, w.heap.size ≤ g → w2.heap[g]? = some o → w'.heap[g]? = some o) ∧ En w' b k x ∧ (∀ w3, Kp (fun k => w.heap.size ≤ k ∧ k < w2.heap.size) w' w3 → R w3)))) :
    Calls Try.prog 31 #[.pointer (some ⟨hb, 0, none⟩), .int .i64 s] w fun e w' => e = .returned (.tuple #[.int .i64 x, .agg #[.int .i64 k.a, .int .i64 k.b, .int .i64 k.c], .int .i64 0]) ∧ R w' := by
  go_enter Try.func31, Try.ntmps31
  go_upto_region 1 with fail
  have G0 : Hid ((w.alloc (.cells #[.int .i64 0, .int .i64 0, .int .i64 0] 32)).heap[w.heap.size]? = some (.cells #[.int .i64 0, .int .i64 0, .int .i64 0] 32 (0, 0))) := new0
  have B0 : Hid (Below w.heap.size w (w.alloc (.cells #[.int .i64 0, .int .i64 0, .int .i64 0] 32))) := by unfold Hid; go_grown
  generalize w.alloc (.cells #[.int .i64 0, .int .i64 0, .int .i64 0] 32) = W at *
  have H5 := H35.out W B0.out
  go_upto_region 3 with (go_at_call 35; refine H5.mono ?_; first | rintro q w1 rfl m rfl | rintro q w1 ⟨rfl, m, rfl⟩)
  have B1 : Hid (Below w.heap.size w (W.drewN m)) := below_drewN B0.out m
  have G1 : Hid ((W.drewN m).heap[w.heap.size]? = some (.cells #[.int .i64 0, .int .i64 0, .int .i64 0] 32 (0, 0))) := G0.out
  have H6 := H36.out _ B1.out
  generalize W.drewN m = W2 at *
  clear H5 H35 H36 B0 G0
  go_upto_region 4 with (go_at_call 36; refine H6.mono ?_; first | rintro q w2 rfl h2 | rintro q w2 ⟨rfl, h2⟩)
  have G2 : Hid (w2.heap[w.heap.size]? = some (.cells #[.int .i64 0, .int .i64 0, .int .i64 0] 32 (0, 0))) := h2.out.1 _ _ (Nat.le_refl _) G1.out
  have L2 : Hid (w.heap.size < W2.heap.size) := (Array.getElem?_eq_some_iff.1 G1.out).1
  have H4 : Hid (Calls Try.prog 34 #[.pointer (some ⟨b, 0, none⟩)] w2 fun q w' => q = .returned (.tuple #[.int .i64 x, .agg #[.int .i64 k.a, .int .i64 k.b, .int .i64 k.c], .int .i64 0]) ∧ Hid (Below w2.heap.size w2 w' ∧ w'.heap[w.heap.size]? = some (.cells #[.int .i64 0, .int .i64 0, .int .i64 0] 32 (0, 0)))) := by
    refine (tell_at w2 b x k h2.out.2.1).mono ?_
    rintro q w' ⟨rfl, b'⟩
    exact ⟨rfl, b', at_below b' (Nat.le_refl _) G2.out⟩
  go_wp2_with (go_at_call 34; refine H4.out.mono ?_; (first | rintro q w3 rfl h3 | rintro q w3 ⟨rfl, h3⟩); obtain ⟨c0, c1, c2⟩ := c3 h3.out.2; obtain ⟨f0, f1, f2⟩ := f3 h3.out.2)
  refine bodyPost_ret (v := .tuple #[.int .i64 x, .agg #[.int .i64 k.a, .int .i64 k.b, .int .i64 k.c], .int .i64 0]) (by rw [results_tct rfl]; go_simp) rfl ⟨rfl, h2.out.2.2 _ ?_⟩
  have hS : (fun k => w.heap.size ≤ k ∧ k < W2.heap.size) w.heap.size := ⟨Nat.le_refl _, L2.out⟩
  exact (((Kp.of_below h3.out.1).trans (Kp.of_set (S := fun k => w.heap.size ≤ k ∧ k < W2.heap.size) w3 ⟨w.heap.size, 0, none⟩ _ hS) fun _ _ h => h).trans (Kp.of_set (S := fun k => w.heap.size ≤ k ∧ k < W2.heap.size) _ ⟨w.heap.size, 1, none⟩ _ hS) fun _ _ h => h).trans (Kp.of_set (S := fun k => w.heap.size ≤ k ∧ k < W2.heap.size) _ ⟨w.heap.size, 2, none⟩ _ hS) fun _ _ h => h
set_option maxHeartbeats 1000000 in
theorem popz_raw (w : World) (v : Value) (s : Nat) (H35 : Hid (∀ w1, Below w.heap.size w w1 → Calls Try.prog 35 #[v, .int .i64 s] w1 fun q w' => q = .returned (.pointer none) ∧ ∃ m, w' = w1.drewN m)) :
    Calls Try.prog 31 #[v, .int .i64 s] w fun e w' => e = .returned (.tuple #[.int .i64 0, .agg #[.int .i64 0, .int .i64 0, .int .i64 0], .int .i64 3]) ∧ Below w.heap.size w w' := by
  go_enter Try.func31, Try.ntmps31
  go_upto_region 1 with fail
  have G0 : Hid ((w.alloc (.cells #[.int .i64 0, .int .i64 0, .int .i64 0] 32)).heap[w.heap.size]? = some (.cells #[.int .i64 0, .int .i64 0, .int .i64 0] 32 (0, 0))) := new0
  have B0 : Hid (Below w.heap.size w (w.alloc (.cells #[.int .i64 0, .int .i64 0, .int .i64 0] 32))) := by unfold Hid; go_grown
  generalize w.alloc (.cells #[.int .i64 0, .int .i64 0, .int .i64 0] 32) = W at *
  have H5 := H35.out W B0.out
  have H4 : Hid (∀ m, Calls Try.prog 34 #[.pointer none] (W.drewN m) fun q w' => q = .returned (.tuple #[.int .i64 0, .agg #[.int .i64 0, .int .i64 0, .int .i64 0], .int .i64 3]) ∧ Hid (Below w.heap.size w w' ∧ w'.heap[w.heap.size]? = some (.cells #[.int .i64 0, .int .i64 0, .int .i64 0] 32 (0, 0)))) := fun m => by
    refine (tell_nil (W.drewN m)).mono ?_
    rintro q w' ⟨rfl, b⟩
    have b' : Below W.heap.size W w' := ⟨b.os, b.tape, b.output, b.size, b.block⟩
    exact ⟨rfl, B0.out.trans (b'.mono B0.out.size), at_below b' (Nat.le_refl _) G0.out⟩
  clear H35
  go_wp2_with (first | (go_at_call 35; refine H5.mono ?_; first | rintro q w1 rfl m rfl | rintro q w1 ⟨rfl, m, rfl⟩) | (go_at_call 34; refine (H4.out _).mono ?_; (first | rintro q w2 rfl h2 | rintro q w2 ⟨rfl, h2⟩); obtain ⟨c0, c1, c2⟩ := c3 h2.out.2; obtain ⟨f0, f1, f2⟩ := f3 h2.out.2))
  refine bodyPost_ret (v := .tuple #[.int .i64 0, .agg #[.int .i64 0, .int .i64 0, .int .i64 0], .int .i64 3]) (by rw [results_tct rfl]; go_simp) rfl ?_
  exact ⟨rfl, by go_grown; exact h2.out.1⟩
set_option maxHeartbeats 1000000 in
theorem pmin_raw (w : World) (v : Value) (x e : Int) (k : K) (R : World → Prop)
    (H31 : Hid (∀ w1, Below w.heap.size w w1 → Calls Try.prog 31 #[v, .int .i64 0] w1 fun q w' => q = .returned (.tuple #[.int .i64 x, .agg #[.int .i64 k.a, .int .i64 k.b, .int .i64 k.c], .int .i64 e]) ∧ Hid ((∀ g o, w.heap.size ≤ g → w1.heap[g]? = some o → w'.heap[g]? = some o) ∧ (∀ w3, Kp (fun k => w.heap.size ≤ k ∧ k < w1.heap.size) w' w3 → R w3)))) :
    Calls Try.prog 13 #[v] w fun q w' => q = .returned (.tuple #[.int .i64 x, .agg #[.int .i64 k.a, .int .i64 k.b, .int .i64 k.c], .int .i64 e]) ∧ R w' := by
  go_enter Try.func13, Try.ntmps13
  go_upto_region 1 with fail
  have G0 : Hid ((w.alloc (.cells #[.int .i64 0, .int .i64 0, .int .i64 0] 32)).heap[w.heap.size]? = some (.cells #[.int .i64 0, .int .i64 0, .int .i64 0] 32 (0, 0))) := new0
  have B0 : Hid (Below w.heap.size w (w.alloc (.cells #[.int .i64 0, .int .i64 0, .int .i64 0] 32))) := by unfold Hid; go_grown
  generalize w.alloc (.cells #[.int .i64 0, .int .i64 0, .int .i64 0] 32) = W at *
  have L2 : Hid (w.heap.size < W.heap.size) := (Array.getElem?_eq_some_iff.1 G0.out).1
  have H5 : Hid (Calls Try.prog 31 #[v, .int .i64 0] W fun q w' => q = .returned (.tuple #[.int .i64 x, .agg #[.int .i64 k.a, .int .i64 k.b, .int .i64 k.c], .int .i64 e]) ∧ Hid (w'.heap[w.heap.size]? = some (.cells #[.int .i64 0, .int .i64 0, .int .i64 0] 32 (0, 0)) ∧ (∀ w3, Kp (fun k => w.heap.size ≤ k ∧ k < W.heap.size) w' w3 → R w3))) := by
    refine (H31.out W B0.out).mono ?_
    rintro q w' ⟨rfl, h⟩
    exact ⟨rfl, h.out.1 _ _ (Nat.le_refl _) G0.out, h.out.2⟩
  clear H31 G0 B0
  go_wp2_with (go_at_call 31; refine H5.out.mono ?_; (first | rintro q w3 rfl h3 | rintro q w3 ⟨rfl, h3⟩); obtain ⟨c0, c1, c2⟩ := c3 h3.out.1; obtain ⟨f0, f1, f2⟩ := f3 h3.out.1)
  refine bodyPost_ret (v := .tuple #[.int .i64 x, .agg #[.int .i64 k.a, .int .i64 k.b, .int .i64 k.c], .int .i64 e]) (by rw [results_tct rfl]; go_simp) rfl ⟨rfl, h3.out.2 _ ?_⟩
  have hS : (fun k => w.heap.size ≤ k ∧ k < W.heap.size) w.heap.size := ⟨Nat.le_refl _, L2.out⟩
  exact ((Kp.of_set (S := fun k => w.heap.size ≤ k ∧ k < W.heap.size) w3 ⟨w.heap.size, 0, none⟩ _ hS).trans (Kp.of_set (S := fun k => w.heap.size ≤ k ∧ k < W.heap.size) _ ⟨w.heap.size, 1, none⟩ _ hS) fun _ _ h => h).trans (Kp.of_set (S := fun k => w.heap.size ≤ k ∧ k < W.heap.size) _ ⟨w.heap.size, 2, none⟩ _ hS) fun _ _ h => h
set_option maxHeartbeats 1000000 in
theorem pmax_raw (w : World) (v : Value) (x e : Int) (k : K) (R : World → Prop)
    (H31 : Hid (∀ w1, Below w.heap.size w w1 → Calls Try.prog 31 #[v, .int .i64 1] w1 fun q w' => q = .returned (.tuple #[.int .i64 x, .agg #[.int .i64 k.a, .int .i64 k.b, .int .i64 k.c], .int .i64 e]) ∧ Hid ((∀ g o, w.heap.size ≤ g → w1.heap[g]? = some o → w'.heap[g]? = some o) ∧ (∀ w3, Kp (fun k => w.heap.size ≤ k ∧ k < w1.heap.size) w' w3 → R w3)))) :
    Calls Try.prog 14 #[v] w fun q w' => q = .returned (.tuple #[.int .i64 x, .agg #[.int .i64 k.a, .int .i64 k.b, .int .i64 k.c], .int .i64 e]) ∧ R w' := by
  go_enter Try.func14, Try.ntmps14
  go_upto_region 1 with fail
  have G0 : Hid ((w.alloc (.cells #[.int .i64 0, .int .i64 0, .int .i64 0] 32)).heap[w.heap.size]? = some (.cells #[.int .i64 0, .int .i64 0, .int .i64 0] 32 (0, 0))) := new0
  have B0 : Hid (Below w.heap.size w (w.alloc (.cells #[.int .i64 0, .int .i64 0, .int .i64 0] 32))) := by unfold Hid; go_grown
  generalize w.alloc (.cells #[.int .i64 0, .int .i64 0, .int .i64 0] 32) = W at *
  have L2 : Hid (w.heap.size < W.heap.size) := (Array.getElem?_eq_some_iff.1 G0.out).1
  have H5 : Hid (Calls Try.prog 31 #[v, .int .i64 1] W fun q w' => q = .returned (.tuple #[.int .i64 x, .agg #[.int .i64 k.a, .int .i64 k.b, .int .i64 k.c], .int .i64 e]) ∧ Hid (w'.heap[w.heap.size]? = some (.cells #[.int .i64 0, .int .i64 0, .int .i64 0] 32 (0, 0)) ∧ (∀ w3, Kp (fun k => w.heap.size ≤ k ∧ k < W.heap.size) w' w3 → R w3))) := by
    refine (H31.out W B0.out).mono ?_
    rintro q w' ⟨rfl, h⟩
    exact ⟨rfl, h.out.1 _ _ (Nat.le_refl _) G0.out, h.out.2⟩
  clear H31 G0 B0
  go_wp2_with (go_at_call 31; refine H5.out.mono ?_; (first | rintro q w3 rfl h3 | rintro q w3 ⟨rfl, h3⟩); obtain ⟨c0, c1, c2⟩ := c3 h3.out.1; obtain ⟨f0, f1, f2⟩ := f3 h3.out.1)
  refine bodyPost_ret (v := .tuple #[.int .i64 x, .agg #[.int .i64 k.a, .int .i64 k.b, .int .i64 k.c], .int .i64 e]) (by rw [results_tct rfl]; go_simp) rfl ⟨rfl, h3.out.2 _ ?_⟩
  have hS : (fun k => w.heap.size ≤ k ∧ k < W.heap.size) w.heap.size := ⟨Nat.le_refl _, L2.out⟩
  exact ((Kp.of_set (S := fun k => w.heap.size ≤ k ∧ k < W.heap.size) w3 ⟨w.heap.size, 0, none⟩ _ hS).trans (Kp.of_set (S := fun k => w.heap.size ≤ k ∧ k < W.heap.size) _ ⟨w.heap.size, 1, none⟩ _ hS) fun _ _ h => h).trans (Kp.of_set (S := fun k => w.heap.size ≤ k ∧ k < W.heap.size) _ ⟨w.heap.size, 2, none⟩ _ hS) fun _ _ h => h
/-! ### over what a heap holds -/
section
variable {w w' w1 w3 : World} {hb g n s g' n' : Nat} {C C' : Ct} {S S' : HS} {k : K}
theorem Hc.ok (h : Hc w hb C g n S) {x : Int} (q : C x = some k) : k.ok ∧ ∃ y : Nat, x = (y : Int) ∧ y < 1048576 ∧ y < g := by
  rw [← h.c] at q
  obtain ⟨b, k1, k2, k3⟩ := cont_some q
  have := h.h.m.ok b k1
  have h2 := h.h.hg b k1
  rw [h.g] at h2
  exact ⟨by rw [← k3]; exact this.1, S.hd b, k2.symm, this.2, h2⟩
theorem outer0 (h : Hc w hb C g 0 S) : Calls Try.prog 35 #[.pointer (some ⟨hb, 0, none⟩), .int .i64 s] w fun e w' => e = .returned (.pointer none) ∧ ∃ m, w' = w.drewN m :=
  (outer_zero w _ _ (len_C h)).mono fun _ _ ⟨q, e⟩ => ⟨q, 0, e⟩
theorem same_at {S : HS} {i j a b : Nat} (hi : S.l[i]? = some a) (h : a = b) (hj : S.l[j]? = some b) (hn : S.l.Nodup) : i = j := by
  subst h
  exact (List.getElem?_inj (List.getElem?_eq_some_iff.1 hi).1 hn).1 (hi.trans hj.symm)
/-- Min or Max, by the side -/
def fnM (s : Nat) : Nat := if s = 0 then 19 else 20
def fnP (s : Nat) : Nat := if s = 0 then 13 else 14
theorem ends_C (h : Hc w hb C g n S) (hn : n ≠ 0) (hs : s ≤ 1) : ∃ (x : Nat) (k : K), C.ext s x k ∧ Calls Try.prog (fnM s) #[ptr hb] w fun e w' => e = .returned (.tuple #[.int .i64 x, ktup k, .int .i64 0]) ∧ Below w.heap.size w w' := by
  obtain ⟨i, b, hi, he, _⟩ := outer_C h hs hn
  refine ⟨S.hd b, S.ky b, he, ?_⟩
  have h35 : ∀ w1, Below w.heap.size w w1 → Calls Try.prog 35 #[.pointer (some ⟨hb, 0, none⟩), .int .i64 s] w1 fun q w' => q = .returned (.pointer (some ⟨b, 0, none⟩)) ∧ ∃ m, w' = w1.drewN m := fun w1 b1 => by
    obtain ⟨i', b', hi', he', hc'⟩ := outer_C (h.below b1) hs hn
    have e1 := he.2 (S.hd b') (S.ky b') he'.1
    have e2 := he'.2 (S.hd b) (S.ky b) he.1
    have o1 := h.h.m.ok b (List.mem_of_getElem? hi)
    have o2 := h.h.m.ok b' (List.mem_of_getElem? hi')
    have hh : S.hd b' = S.hd b := by
      have a1 := o1.1.b
      have a2 := o1.1.c
      have a3 := o2.1.b
      have a4 := o2.1.c
      rcases (by omega : s = 0 ∨ s = 1) with rfl | rfl
      · unfold sg enc at e1 e2
        rw [if_pos rfl, if_pos rfl] at e1 e2
        omega
      · unfold sg enc at e1 e2
        rw [if_neg (by decide), if_neg (by decide)] at e1 e2
        omega
    have : b' = b := h.h.hu b' (List.mem_of_getElem? hi') b (List.mem_of_getElem? hi) hh
    rw [this] at hc'
    exact hc'
  have h34 : ∀ w1, Below w.heap.size w w1 → Calls Try.prog 34 #[.pointer (some ⟨b, 0, none⟩)] w1 fun q w' => q = .returned (.tuple #[.int .i64 (S.hd b), .agg #[.int .i64 (S.ky b).a, .int .i64 (S.ky b).b, .int .i64 (S.ky b).c], .int .i64 0]) ∧ Below w1.heap.size w1 w' := fun w1 b1 => tell_at w1 b _ _ ((h.h.m.en hi).below b1)
  rcases (by omega : s = 0 ∨ s = 1) with rfl | rfl
  · exact min_raw w _ _ _ _ _ h35 h34
  · exact max_raw w _ _ _ _ _ h35 h34
theorem ends_0 (h : Hc w hb C g 0 S) (hs : s ≤ 1) : Calls Try.prog (fnM s) #[ptr hb] w fun e w' => e = .returned (.tuple #[.int .i64 0, ktup kz, .int .i64 3]) ∧ Below w.heap.size w w' := by
  rcases (by omega : s = 0 ∨ s = 1) with rfl | rfl
  · exact min_raw w _ _ 0 3 kz (fun w1 b1 => outer0 (s := 0) (h.below b1)) (fun w1 _ => tell_nil w1)
  · exact max_raw w _ _ 0 3 kz (fun w1 b1 => outer0 (s := 1) (h.below b1)) (fun w1 _ => tell_nil w1)
theorem Less.hc {b : Nat} (h : Hc w hb C g n S) (L : Less w w' hb b S S') (hb' : b ∈ S.l) : Hc w' hb (C.del (S.hd b)) g (n - 1) S' := by
  refine ⟨L.h, ?_, by rw [L.gv, h.g], by have := L.n; have := h.n; omega⟩
  funext x
  refine cont_eq L.h.hu (fun k' q => ?_) (fun q c hc => ?_)
  · unfold Ct.del at q
    split at q
    · cases q
    · rename_i ex
      rw [← h.c] at q
      obtain ⟨c, k1, k2, k3⟩ := cont_some q
      exact ⟨c, (L.m c).2 ⟨k1, by rintro rfl; exact ex k2.symm⟩, by rw [L.hd]; exact k2, by rw [L.ky]; exact k3⟩
  · obtain ⟨c1, c2⟩ := (L.m c).1 hc
    rw [L.hd]
    unfold Ct.del at q
    split at q
    · rename_i ex
      rw [ex]
      exact fun q' => c2 (h.h.hu c c1 b hb' (by omega))
    · rw [← h.c] at q
      exact cont_none q c c1
theorem pop_C (h : Hc w hb C g n S) (hn : n ≠ 0) (hs : s ≤ 1) : ∃ (x : Nat) (k : K), C.ext s x k ∧ Calls Try.prog (fnP s) #[ptr hb] w fun e w' => e = .returned (.tuple #[.int .i64 x, ktup k, .int .i64 0]) ∧ ∃ S', Hc w' hb (C.del x) g (n - 1) S' ∧ Chg hb S S' w w' := by
  obtain ⟨i, b, hi, he, _⟩ := outer_C h hs hn
  have hbm := List.mem_of_getElem? hi
  refine ⟨S.hd b, S.ky b, he, ?_⟩
  have h35 : ∀ w1, Below w.heap.size w w1 → Calls Try.prog 35 #[.pointer (some ⟨hb, 0, none⟩), .int .i64 s] w1 fun q w' => q = .returned (.pointer (some ⟨b, 0, none⟩)) ∧ ∃ m, w' = w1.drewN m := fun w1 b1 => by
    obtain ⟨i', b', hi', he', hc'⟩ := outer_C (h.below b1) hs hn
    have e1 := he.2 (S.hd b') (S.ky b') he'.1
    have e2 := he'.2 (S.hd b) (S.ky b) he.1
    have o1 := h.h.m.ok b (List.mem_of_getElem? hi)
    have o2 := h.h.m.ok b' (List.mem_of_getElem? hi')
    have hh : S.hd b' = S.hd b := by
      have a1 := o1.1.b
      have a2 := o1.1.c
      have a3 := o2.1.b
      have a4 := o2.1.c
      rcases (by omega : s = 0 ∨ s = 1) with rfl | rfl
      · unfold sg enc at e1 e2
        rw [if_pos rfl, if_pos rfl] at e1 e2
        omega
      · unfold sg enc at e1 e2
        rw [if_neg (by decide), if_neg (by decide)] at e1 e2
        omega
    have : b' = b := h.h.hu b' (List.mem_of_getElem? hi') b (List.mem_of_getElem? hi) hh
    rw [this] at hc'
    exact hc'
  have h31 : ∀ w1, Below w.heap.size w w1 → Calls Try.prog 31 #[.pointer (some ⟨hb, 0, none⟩), .int .i64 s] w1 fun q w' => q = .returned (.tuple #[.int .i64 (S.hd b), .agg #[.int .i64 (S.ky b).a, .int .i64 (S.ky b).b, .int .i64 (S.ky b).c], .int .i64 0]) ∧ Hid ((∀ g o, w.heap.size ≤ g → w1.heap[g]? = some o → w'.heap[g]? = some o) ∧ (∀ w3, Kp (fun k => w.heap.size ≤ k ∧ k < w1.heap.size) w' w3 → ∃ S', Hc w3 hb (C.del (S.hd b)) g (n - 1) S' ∧ Chg hb S S' w w3)) := fun w1 b1 => by
    have h1 := h.below b1
    refine (pop_raw w1 hb b (S.hd b) s (S.ky b) (fun w' => ∃ S', Hc w' hb (C.del (S.hd b)) g (n - 1) S' ∧ Chg hb S S' w1 w') (fun w2 b2 => h35 w2 (b1.trans (b2.mono b1.size))) (fun w2 b2 => ?_)).mono ?_
    · have h2 := h1.below b2
      refine (drop_S h2.h hi).mono ?_
      rintro q w' ⟨rfl, S', L⟩
      exact ⟨rfl, box_at h1 L.c, L.en, fun w3 k3 => ⟨S', box_keep h1 b2 L.c (L.hc h2 hbm) k3⟩⟩
    · rintro q w' ⟨rfl, S', hH, hC⟩
      exact ⟨rfl, box_at h hC, fun w3 k3 => ⟨S', box_keep h b1 hC hH k3⟩⟩
  rcases (by omega : s = 0 ∨ s = 1) with rfl | rfl
  · exact pmin_raw w _ _ _ _ _ h31
  · exact pmax_raw w _ _ _ _ _ h31
theorem pop_0 (h : Hc w hb C g 0 S) (hs : s ≤ 1) : Calls Try.prog (fnP s) #[ptr hb] w fun e w' => e = .returned (.tuple #[.int .i64 0, ktup kz, .int .i64 3]) ∧ Below w.heap.size w w' := by
  have h31 : ∀ w1, Below w.heap.size w w1 → Calls Try.prog 31 #[.pointer (some ⟨hb, 0, none⟩), .int .i64 s] w1 fun q w' => q = .returned (.tuple #[.int .i64 0, .agg #[.int .i64 kz.a, .int .i64 kz.b, .int .i64 kz.c], .int .i64 3]) ∧ Hid ((∀ g o, w.heap.size ≤ g → w1.heap[g]? = some o → w'.heap[g]? = some o) ∧ (∀ w3, Kp (fun k => w.heap.size ≤ k ∧ k < w1.heap.size) w' w3 → Below w.heap.size w w3)) := fun w1 b1 => by
    refine (popz_raw w1 _ s (fun w2 b2 => outer0 ((h.below b1).below b2))).mono ?_
    rintro q w' ⟨rfl, b⟩
    exact ⟨rfl, fun g o _ ho => at_below b (Nat.le_refl _) ho, fun w3 k3 => (b1.trans (b.mono b1.size)).trans (k3.below (Nat.le_trans b1.size b.size) fun k hk q => by omega)⟩
  rcases (by omega : s = 0 ∨ s = 1) with rfl | rfl
  · exact pmin_raw w _ 0 3 kz _ h31
  · exact pmax_raw w _ 0 3 kz _ h31
end
end Go.Proofs.Ytbaffgkopgbknaa
