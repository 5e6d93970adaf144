/-
  tell, outer, Min, Max.
-/
import Derived.Test.YthlbeofonbbbdaaNl
namespace Go.Proofs.Ythlbeofonbbbdaa
open Go.RowKit Go.Maps

theorem keep1c' {w w1 : World} {g o : Nat} {v : Value} (b : Below w.heap.size w w1) (h : w.cell? ⟨g, o, none⟩ = some v) : w1.cell? ⟨g, o, none⟩ = some v := by
  have hg : g < w.heap.size := by
    unfold World.cell? at h
    by_cases q : g < w.heap.size
    · exact q
    · rw [Array.getElem?_eq_none (show w.heap.size ≤ g by omega)] at h; cases h
  rw [← h]
  exact b.cell (p := ⟨g, o, none⟩) hg
theorem En.below {w w1 : World} {x h : Nat} {k : K} (e : En w x k h) (b : Below w.heap.size w w1) : En w1 x k h := ⟨keep1c' b e.h, keep1c' b e.a, keep1c' b e.b, keep1c' b e.c⟩
set_option maxHeartbeats 400000 in
theorem tell_nil (w : World) : Calls Try.prog 48 #[.pointer none] w fun e w' => e = .returned (.tuple #[.int .i64 0, .agg #[.int .i64 0, .int .i64 0, .int .i64 0], .int .i64 3]) ∧ Below w.heap.size w w' := by
  go_enter Try.func48, Try.ntmps48
  go_wp2_with fail
  refine bodyPost_ret (v := .tuple #[.int .i64 0, .agg #[.int .i64 0, .int .i64 0, .int .i64 0], .int .i64 3]) (by rw [results_tct rfl]; go_simp) rfl ?_
  exact ⟨rfl, by go_grown⟩
set_option maxHeartbeats 1000000 in
theorem tell_at (w : World) (b x : Nat) (k : K) (E : Hid (En w b k x)) : Calls Try.prog 48 #[.pointer (some ⟨b, 0, none⟩)] w fun e w' => e = .returned (.tuple #[.int .i64 x, .agg #[.int .i64 k.a, .int .i64 k.b, .int .i64 k.c], .int .i64 0]) ∧ Below w.heap.size w w' := by
  go_enter Try.func48, Try.ntmps48
  go_upto_region 3 with fail
  have G0 : Hid ((w.alloc (.cells #[.int .i64 0, .int .i64 0, .int .i64 0] 78)).heap[w.heap.size]? = some (.cells #[.int .i64 0, .int .i64 0, .int .i64 0] 78 (0, 0))) := new0
  have B0 : Hid (Below w.heap.size w (w.alloc (.cells #[.int .i64 0, .int .i64 0, .int .i64 0] 78))) := by unfold Hid; go_grown
  obtain ⟨h0, h1, h2, h3⟩ := E.out.below B0.out
  obtain ⟨c0, c1, c2⟩ := c3 G0.out
  obtain ⟨f0, f1, f2⟩ := f3 G0.out
  generalize w.alloc (.cells #[.int .i64 0, .int .i64 0, .int .i64 0] 78) = W at *
  go_region
  all_goals go_wp2_with fail
  all_goals refine bodyPost_ret (v := .tuple #[.int .i64 x, .agg #[.int .i64 k.a, .int .i64 k.b, .int .i64 k.c], .int .i64 0]) (by rw [results_tct rfl]; go_simp) rfl ?_
  all_goals exact ⟨rfl, by go_grown; exact B0.out⟩
set_option maxHeartbeats 400000 in
theorem outer_zero (w : World) (v : Value) (s : Int) (H16 : Hid (Calls Try.prog 51 #[v] w fun e w' => e = .returned (.int .i64 0) ∧ w' = w)) : Calls Try.prog 49 #[v, .int .i64 s] w fun e w' => e = .returned (.pointer none) ∧ w' = w := by
  go_enter Try.func49, Try.ntmps49
  go_wp2_with (go_at_call 51; refine H16.out.mono ?_; rintro e w1 ⟨rfl, rfl⟩)
  go_ret
  exact ⟨rfl, rfl⟩
set_option maxHeartbeats 400000 in
theorem outer_raw (w : World) (hb g n c i b s : Nat) (H16 : Hid (Calls Try.prog 51 #[.pointer (some ⟨hb, 0, none⟩)] w fun e w' => e = .returned (.int .i64 n) ∧ w' = w)) (c2 : w.cell? ⟨hb, 2, none⟩ = some (.slice (some ⟨g, 0, none⟩) n c)) (hi : i < n) (ci : w.cell? ⟨g, i, none⟩ = some (.pointer (some ⟨b, 0, none⟩)))
    (H39 : Hid (∀ m, Calls Try.prog 60 #[.pointer (some ⟨hb, 0, none⟩), .int .i64 0, .int .i64 s] (w.drewN m) fun e w' => e = .returned (.int .i64 i) ∧ w' = w.drewN m)) :
    Calls Try.prog 49 #[.pointer (some ⟨hb, 0, none⟩), .int .i64 s] w fun e w' => e = .returned (.pointer (some ⟨b, 0, none⟩)) ∧ ∃ m, w' = w.drewN m := by
  have hi' : (i : Int) < (n : Int) := by omega
  have hn' : ¬ (n : Int) = 0 := by omega
  go_enter Try.func49, Try.ntmps49
  go_upto_region 3 with (go_at_call 51; refine H16.out.mono ?_; rintro e w1 ⟨rfl, rfl⟩)
  go_quiet ((go_at_call 60; exact Calls.quiet_of_same (H39.out _)))
  go_wp2_with fail
  go_ret
  exact ⟨rfl, _, rfl⟩
/-- the entry at one end -/
def Ct.ext (C : Ct) (s x : Nat) (k : K) : Prop := C x = some k ∧ ∀ (y : Nat) (k' : K), C y = some k' → sg s (enc k x) ≤ sg s (enc k' y)
section
variable {w w' : World} {hb g n s : Nat} {C : Ct} {S S' : HS} {k : K}
theorem outer_C (h : Hc w hb C g n S) (hs : s ≤ 1) (hn : n ≠ 0) : ∃ i b : Nat, S.l[i]? = some b ∧ C.ext s (S.hd b) (S.ky b) ∧ Calls Try.prog 49 #[.pointer (some ⟨hb, 0, none⟩), .int .i64 s] w fun e w' => e = .returned (.pointer (some ⟨b, 0, none⟩)) ∧ ∃ m, w' = w.drewN m := by
  have hl := h.n
  have hi : P S.l.length s 0 < S.l.length := P_lt (by omega)
  have si := some_of hi
  obtain ⟨gb, c, e⟩ := h.h.m.fm.row (by rintro q; rw [q] at hl; exact hn hl.symm)
  have hF := h.h.m.fm
  rw [e] at hF
  refine ⟨_, _, si, ⟨?_, fun y k' q => ?_⟩, outer_raw w hb gb S.l.length c _ _ s ?_ (by rw [h.h.m.c2, e]) hi (hF.cell si).1 (fun m => ?_)⟩
  · rw [← h.c]; exact cont_mem h.h.hu (List.mem_of_getElem? si)
  · rw [← h.c] at q
    obtain ⟨b, k1, k2, k3⟩ := cont_some q
    obtain ⟨j, hj⟩ := List.getElem?_of_mem k1
    have hjl := (List.getElem?_eq_some_iff.1 hj).1
    have hv := vv_least h.h.v hjl
    have e2 : S.v j = enc k' y := by
      unfold HS.v HS.en
      rw [getD_of hj, k3]
      congr 1
      omega
    rw [e2] at hv
    rcases (by omega : s = 0 ∨ s = 1) with rfl | rfl
    · rw [show P S.l.length 0 0 = 0 by unfold P; omega]
      exact hv.1
    · unfold sg
      rw [if_neg (by decide), if_neg (by decide)]
      have := hv.2
      unfold HS.v HS.en at this
      omega
  · have := len_C h
    rw [← hl] at this
    exact this
  · have := end_S (p := 0) (h.h.m.drew m) (by omega) hs
    exact this
end
set_option maxHeartbeats 400000 in
theorem min_raw (w : World) (v r : Value) (x e : Int) (k : K) (H35 : Hid (∀ w1, Below w.heap.size w w1 → Calls Try.prog 49 #[v, .int .i64 0] w1 fun q w' => q = .returned r ∧ ∃ m, w' = w1.drewN m)) (H34 : Hid (∀ w1, Below w.heap.size w w1 → Calls Try.prog 48 #[r] w1 fun q w' => q = .returned (.tuple #[.int .i64 x, .agg #[.int .i64 k.a, .int .i64 k.b, .int .i64 k.c], .int .i64 e]) ∧ Below w1.heap.size w1 w')) :
    Calls Try.prog 34 #[v] w fun q w' => q = .returned (.tuple #[.int .i64 x, .agg #[.int .i64 k.a, .int .i64 k.b, .int .i64 k.c], .int .i64 e]) ∧ Below w.heap.size w w' := by
  go_enter Try.func34, Try.ntmps34
  go_upto_region 1 with fail
  have G0 : Hid ((w.alloc (.cells #[.int .i64 0, .int .i64 0, .int .i64 0] 78)).heap[w.heap.size]? = some (.cells #[.int .i64 0, .int .i64 0, .int .i64 0] 78 (0, 0))) := new0
  have B0 : Hid (Below w.heap.size w (w.alloc (.cells #[.int .i64 0, .int .i64 0, .int .i64 0] 78))) := by unfold Hid; go_grown
  generalize w.alloc (.cells #[.int .i64 0, .int .i64 0, .int .i64 0] 78) = W at *
  have H5 := H35.out W B0.out
  have H4 : Hid (∀ m, Calls Try.prog 48 #[r] (W.drewN m) fun q w' => q = .returned (.tuple #[.int .i64 x, .agg #[.int .i64 k.a, .int .i64 k.b, .int .i64 k.c], .int .i64 e]) ∧ Hid (Below w.heap.size w w' ∧ w'.heap[w.heap.size]? = some (.cells #[.int .i64 0, .int .i64 0, .int .i64 0] 78 (0, 0)))) := fun m => by
    refine (H34.out (W.drewN m) (below_drewN B0.out m)).mono ?_
    rintro q w' ⟨rfl, b⟩
    have b' : Below W.heap.size W w' := ⟨b.os, b.tape, b.output, b.size, b.block⟩
    exact ⟨rfl, B0.out.trans (b'.mono B0.out.size), at_below b' (Nat.le_refl _) G0.out⟩
  clear H35 H34
  go_wp2_with (first | (go_at_call 49; refine H5.mono ?_; first | rintro q w1 rfl m rfl | rintro q w1 ⟨rfl, m, rfl⟩) | (go_at_call 48; refine (H4.out _).mono ?_; (first | rintro q w2 rfl h2 | rintro q w2 ⟨rfl, h2⟩); obtain ⟨c0, c1, c2⟩ := c3 h2.out.2; obtain ⟨f0, f1, f2⟩ := f3 h2.out.2))
  refine bodyPost_ret (v := .tuple #[.int .i64 x, .agg #[.int .i64 k.a, .int .i64 k.b, .int .i64 k.c], .int .i64 e]) (by rw [results_tct rfl]; go_simp) rfl ?_
  exact ⟨rfl, by go_grown; exact h2.out.1⟩
section
variable {w w' w1 w3 : World} {hb g n s g' n' : Nat} {C C' : Ct} {S S' : HS} {k : K}
theorem box_at (h : Hc w hb C g n S) (hC : Chg hb S S' w1 w') : ∀ k o, w.heap.size ≤ k → w1.heap[k]? = some o → w'.heap[k]? = some o := fun k o h1 h2 =>
  (hC.kp.block k (Array.getElem?_eq_some_iff.1 h2).1 fun q => by have := h.h.lt k q; omega).trans h2
theorem box_keep (h : Hc w hb C g n S) (b : Below w.heap.size w w1) (hC : Chg hb S S' w1 w') (hH : Hc w' hb C' g' n' S') (k3 : Kp (fun k => w.heap.size ≤ k ∧ k < w1.heap.size) w' w3) : Hc w3 hb C' g' n' S' ∧ Chg hb S S' w w3 := by
  have hb1 := b.size
  refine ⟨hH.keep fun k q => k3.block k (hH.h.lt k q) fun q' => ?_, ((Kp.of_below (S := Fp hb S) b).trans hC.kp fun _ _ h => h).trans k3 fun k hk q => by omega, fun k q => ?_⟩
  · rcases hC.fp k q with q | q
    · have := h.h.lt k q; omega
    · omega
  · rcases hC.fp k q with q | q
    · exact .inl q
    · exact .inr (by omega)
end
section
variable {w w' w1 w3 : World} {hb g n s g' n' : Nat} {C C' : Ct} {S S' : HS} {k : K}
theorem Hc.ok (h : Hc w hb C g n S) {x : Int} (q : C x = some k) : k.ok ∧ ∃ y : Nat, x = (y : Int) ∧ y < 1048576 ∧ y < g := by
  rw [← h.c] at q
  obtain ⟨b, k1, k2, k3⟩ := cont_some q
  have := h.h.m.ok b k1
  have h2 := h.h.hg b k1
  rw [h.g] at h2
  exact ⟨by rw [← k3]; exact this.1, S.hd b, k2.symm, this.2, h2⟩
theorem outer0 (h : Hc w hb C g 0 S) : Calls Try.prog 49 #[.pointer (some ⟨hb, 0, none⟩), .int .i64 s] w fun e w' => e = .returned (.pointer none) ∧ ∃ m, w' = w.drewN m :=
  (outer_zero w _ _ (len_C h)).mono fun _ _ ⟨q, e⟩ => ⟨q, 0, e⟩
theorem same_at {S : HS} {i j a b : Nat} (hi : S.l[i]? = some a) (h : a = b) (hj : S.l[j]? = some b) (hn : S.l.Nodup) : i = j := by
  subst h
  exact (List.getElem?_inj (List.getElem?_eq_some_iff.1 hi).1 hn).1 (hi.trans hj.symm)
theorem Less.hc {b : Nat} (h : Hc w hb C g n S) (L : Less w w' hb b S S') (hb' : b ∈ S.l) : Hc w' hb (C.del (S.hd b)) g (n - 1) S' := by
  refine ⟨L.h, ?_, by rw [L.gv, h.g], by have := L.n; have := h.n; omega⟩
  funext x
  refine cont_eq L.h.hu (fun k' q => ?_) (fun q c hc => ?_)
  · unfold Ct.del at q
    split at q
    · cases q
    · rename_i ex
      rw [← h.c] at q
      obtain ⟨c, k1, k2, k3⟩ := cont_some q
      exact ⟨c, (L.m c).2 ⟨k1, by rintro rfl; exact ex k2.symm⟩, by rw [L.hd]; exact k2, by rw [L.ky]; exact k3⟩
  · obtain ⟨c1, c2⟩ := (L.m c).1 hc
    rw [L.hd]
    unfold Ct.del at q
    split at q
    · rename_i ex
      rw [ex]
      exact fun q' => c2 (h.h.hu c c1 b hb' (by omega))
    · rw [← h.c] at q
      exact cont_none q c c1
end
end Go.Proofs.Ythlbeofonbbbdaa
