/-
  The law's step: Take, Give, Names on both ledgers; a call of no kind.
-/
import Derived.Test.YtehgcaaeifnjeaaSb
namespace Go.Proofs.Ytehgcaaeifnjeaa
open Go.RowKit Go.Maps Go.WideMaps
theorem cell_keep {w w1 : World} {g o : Nat} {v : Value} (b : Below w.heap.size w w1) (h : w.cell? ⟨g, o, none⟩ = some v) : w1.cell? ⟨g, o, none⟩ = some v := by
  have hg : g < w.heap.size := by
    unfold World.cell? at h
    by_cases q : g < w.heap.size
    · exact q
    · rw [Array.getElem?_eq_none (show w.heap.size ≤ g by omega)] at h; cases h
  rw [← h]
  exact b.cell (p := ⟨g, o, none⟩) hg
theorem ERow.below0 {w w1 : World} {s : Option Addr} {l : List E} (h : ERow w s l) (b : Below w.heap.size w w1) : ERow w1 s l := fun i v hv => by
  obtain ⟨p, o, rfl, h0, h1, h2, h3, h4⟩ := h i v hv
  exact ⟨p, o, rfl, cell_keep b h0, cell_keep b h1, cell_keep b h2, cell_keep b h3, cell_keep b h4⟩
theorem er5_erow {b : Nat} {w : World} {q : Option Addr} {n c : Nat} {L : List E} (h : ER5 b w (.slice q n c) L) : ERow w q L := fun i v hv => by
  obtain ⟨g, rfl, hk⟩ := h.at eC_len hv
  refine ⟨g, 0, rfl, ?_⟩
  have k0 := hk 0 _ rfl
  have k1 := hk 1 _ rfl
  have k2 := hk 2 _ rfl
  have k3 := hk 3 _ rfl
  have k4 := hk 4 _ rfl
  simp only [Nat.zero_add, Nat.add_zero] at *
  exact ⟨k0, k1, k2, k3, k4⟩
theorem er5_ge {b : Nat} {w : World} {q : Option Addr} {n c : Nat} {L : List E} (h : ER5 b w (.slice q n c) L) {g o : Nat} (e : q = some ⟨g, o, none⟩) : b ≤ g := by
  subst e
  rcases h.2 with ⟨q1, _⟩ | ⟨g', cap, cur, q1, hb1, _⟩
  · cases q1
  · cases q1
    exact hb1
section
variable {w0 w : World} {pb rb : Nat}
set_option maxHeartbeats 2000000 in
set_option maxRecDepth 100000 in
theorem step5 (h : Hid (P0 w0 w NX pb rb)) (s : ByteArray) (v : V) (q : Option Addr) (n c : Nat) (es : List E) (hn : Hid (es.length = n ∧ n ≤ 1000000)) (hr : Hid (ERow w0 q es)) (hz : Hid (∀ e ∈ es, e.nm.size ≤ 281474976710656)) :
    Calls Try.prog 12 #[.pointer (some ⟨pb, 0, none⟩), .pointer (some ⟨rb, 0, none⟩), .agg #[.int .i64 5, .string s, .int .i64 v.a, .int .i64 v.b, .int .i64 v.c, .int .i64 v.d, .slice q n c]] w (StR w0 pb rb) := by
  have HO : Hid (∀ W, Below w.heap.size w W → W.heap[w.heap.size]? = some (.cells #[.int .i64 5, .string s, .int .i64 v.a, .int .i64 v.b, .int .i64 v.c, .int .i64 v.d, .slice q n c] 36 (0, 0)) → Calls Try.prog 19 #[.pointer (some ⟨pb, 0, none⟩), .slice q n c] W fun e w' => ∃ r, e = .returned (.int .i64 r) ∧ Hid (P1 w0 w' NX pb rb w.heap.size (fun D => takeD D es) r ∧ w.heap.size ≤ w'.heap.size ∧ w'.heap[w.heap.size]? = some (.cells #[.int .i64 5, .string s, .int .i64 v.a, .int .i64 v.b, .int .i64 v.c, .int .i64 v.d, .slice q n c] 36 (0, 0)))) := fun W b hb => by
    have := p_take h.out b q es c (by rw [hn.out.1]; have := hn.out.2; omega) (hr.out.below0 (h.out.bel.trans (b.mono h.out.bel.size))) hz.out
    rw [hn.out.1] at this
    exact this.mono fun e w' ⟨r, he, h⟩ => ⟨r, he, h.out.1, Nat.le_trans b.size h.out.2.1, h.out.2.2 _ _ (Nat.le_refl _) hb⟩
  have HP : Hid (∀ W r, P1 w0 W NX pb rb w.heap.size (fun D => takeD D es) r → w.heap.size ≤ W.heap.size → W.heap[w.heap.size]? = some (.cells #[.int .i64 5, .string s, .int .i64 v.a, .int .i64 v.b, .int .i64 v.c, .int .i64 v.d, .slice q n c] 36 (0, 0)) → Calls Try.prog 29 #[.slice q n c] W fun e w' => ∃ p c', e = .returned (.slice p n c') ∧ Hid (w'.heap[w.heap.size]? = some (.cells #[.int .i64 5, .string s, .int .i64 v.a, .int .i64 v.b, .int .i64 v.c, .int .i64 v.d, .slice q n c] 36 (0, 0)) ∧ Calls Try.prog 24 #[.pointer (some ⟨rb, 0, none⟩), .slice p n c'] w' fun e w2 => e = .returned (.int .i64 r) ∧ Hid (P0 w0 w2 NX pb rb ∧ w2.heap[w.heap.size]? = some (.cells #[.int .i64 5, .string s, .int .i64 v.a, .int .i64 v.b, .int .i64 v.c, .int .i64 v.d, .slice q n c] 36 (0, 0))))) := fun W r h hsz hb => by
    refine (plain_raw W q n c es hn.out.1 (by have := hn.out.2; omega) (hr.out.below0 h.bel)).mono ?_
    rintro e w' ⟨p, c', he, h'⟩
    refine ⟨p, c', he, at_below h'.out.2 (Nat.le_refl _) hb, ?_⟩
    have := k_take h h'.out.2 p c' (by rw [hn.out.1]; have := hn.out.2; omega) (er5_erow h'.out.1) (fun g o e => Nat.le_trans hsz (er5_ge h'.out.1 e))
    rw [hn.out.1] at this
    exact this.mono fun e w' ⟨he, h2⟩ => ⟨he, h2.out.1, h2.out.2 _ _ (Nat.le_refl _) (at_below h'.out.2 (Nat.le_refl _) hb)⟩
  have SS : Hid (∀ W : World, W.heap[w.heap.size]? = some (.cells #[.int .i64 5, .string s, .int .i64 v.a, .int .i64 v.b, .int .i64 v.c, .int .i64 v.d, .slice q n c] 36 (0, 0)) → W.cell? ⟨w.heap.size, 6, none⟩ = some (.slice q n c)) := fun W h => by
    obtain ⟨-, -, -, -, -, -, d6⟩ := cells7 h
    exact d6
  have zz := SS.out (w.alloc (.cells #[.int .i64 5, .string s, .int .i64 v.a, .int .i64 v.b, .int .i64 v.c, .int .i64 v.d, .slice q n c] 36 (0, 0))) new0
  have zd := SS.out ((w.alloc (.cells #[.int .i64 5, .string s, .int .i64 v.a, .int .i64 v.b, .int .i64 v.c, .int .i64 v.d, .slice q n c] 36 (0, 0))).drewN 1) new0
  have BX := HO.out ((w.alloc (.cells #[.int .i64 5, .string s, .int .i64 v.a, .int .i64 v.b, .int .i64 v.c, .int .i64 v.d, .slice q n c] 36 (0, 0))).drewN 1) (below_drewN ((Below.refl _ _).alloc (Nat.le_refl _) _) 1) new0
  clear HO h hz hn hr
  go_enter Try.func12, Try.ntmps12
  go_upto_region 15 with fail
  go_region_held3 (fun W : World => W.cell? ⟨w.heap.size, 6, none⟩ = some (.slice q n c)) (first | (with_reducible assumption) | (with_reducible exact zd) | (exact zd) | (exact zz) | go_keep) (first
    | (go_at_call 19; refine BX.mono ?_; rintro e wA ⟨r1, rfl, hA⟩; have zz := SS.out _ hA.out.2.2)
    | (go_at_call 29; refine (HP.out _ _ hA.out.1 hA.out.2.1 hA.out.2.2).mono ?_; rintro e wB ⟨p, c', rfl, hB⟩; have zz := SS.out _ hB.out.1)
    | (go_at_call 24; refine hB.out.2.mono ?_; rintro e wC ⟨rfl, hC⟩; have zz := SS.out _ hC.out.2))
  all_goals go_wp2_with fail
  all_goals go_ret
  all_goals exact ⟨by simp, hC.out.1⟩
set_option maxHeartbeats 2000000 in
set_option maxRecDepth 100000 in
theorem step6 (h : Hid (P0 w0 w NX pb rb)) (s : ByteArray) (v : V) (q : Option Addr) (n c : Nat) (es : List E) (hn : Hid (es.length = n ∧ n ≤ 1000000)) (hr : Hid (ERow w0 q es)) (hz : Hid (∀ e ∈ es, e.nm.size ≤ 281474976710656)) :
    Calls Try.prog 12 #[.pointer (some ⟨pb, 0, none⟩), .pointer (some ⟨rb, 0, none⟩), .agg #[.int .i64 6, .string s, .int .i64 v.a, .int .i64 v.b, .int .i64 v.c, .int .i64 v.d, .slice q n c]] w (StR w0 pb rb) := by
  have HO : Hid (∀ W, Below w.heap.size w W → W.heap[w.heap.size]? = some (.cells #[.int .i64 6, .string s, .int .i64 v.a, .int .i64 v.b, .int .i64 v.c, .int .i64 v.d, .slice q n c] 36 (0, 0)) → Calls Try.prog 20 #[.pointer (some ⟨pb, 0, none⟩), .slice q n c] W fun e w' => ∃ r, e = .returned (.int .i64 r) ∧ Hid (P1 w0 w' NX pb rb w.heap.size (fun D => giveD D es) r ∧ w.heap.size ≤ w'.heap.size ∧ w'.heap[w.heap.size]? = some (.cells #[.int .i64 6, .string s, .int .i64 v.a, .int .i64 v.b, .int .i64 v.c, .int .i64 v.d, .slice q n c] 36 (0, 0)))) := fun W b hb => by
    have := p_give h.out b q es c (by rw [hn.out.1]; have := hn.out.2; omega) (hr.out.below0 (h.out.bel.trans (b.mono h.out.bel.size))) hz.out
    rw [hn.out.1] at this
    exact this.mono fun e w' ⟨r, he, h⟩ => ⟨r, he, h.out.1, Nat.le_trans b.size h.out.2.1, h.out.2.2 _ _ (Nat.le_refl _) hb⟩
  have HP : Hid (∀ W r, P1 w0 W NX pb rb w.heap.size (fun D => giveD D es) r → w.heap.size ≤ W.heap.size → W.heap[w.heap.size]? = some (.cells #[.int .i64 6, .string s, .int .i64 v.a, .int .i64 v.b, .int .i64 v.c, .int .i64 v.d, .slice q n c] 36 (0, 0)) → Calls Try.prog 29 #[.slice q n c] W fun e w' => ∃ p c', e = .returned (.slice p n c') ∧ Hid (w'.heap[w.heap.size]? = some (.cells #[.int .i64 6, .string s, .int .i64 v.a, .int .i64 v.b, .int .i64 v.c, .int .i64 v.d, .slice q n c] 36 (0, 0)) ∧ Calls Try.prog 30 #[.pointer (some ⟨rb, 0, none⟩), .slice p n c'] w' fun e w2 => e = .returned (.int .i64 r) ∧ Hid (P0 w0 w2 NX pb rb ∧ w2.heap[w.heap.size]? = some (.cells #[.int .i64 6, .string s, .int .i64 v.a, .int .i64 v.b, .int .i64 v.c, .int .i64 v.d, .slice q n c] 36 (0, 0))))) := fun W r h hsz hb => by
    refine (plain_raw W q n c es hn.out.1 (by have := hn.out.2; omega) (hr.out.below0 h.bel)).mono ?_
    rintro e w' ⟨p, c', he, h'⟩
    refine ⟨p, c', he, at_below h'.out.2 (Nat.le_refl _) hb, ?_⟩
    have := k_give h h'.out.2 p c' (by rw [hn.out.1]; have := hn.out.2; omega) (er5_erow h'.out.1) (fun g o e => Nat.le_trans hsz (er5_ge h'.out.1 e))
    rw [hn.out.1] at this
    exact this.mono fun e w' ⟨he, h2⟩ => ⟨he, h2.out.1, h2.out.2 _ _ (Nat.le_refl _) (at_below h'.out.2 (Nat.le_refl _) hb)⟩
  have SS : Hid (∀ W : World, W.heap[w.heap.size]? = some (.cells #[.int .i64 6, .string s, .int .i64 v.a, .int .i64 v.b, .int .i64 v.c, .int .i64 v.d, .slice q n c] 36 (0, 0)) → W.cell? ⟨w.heap.size, 6, none⟩ = some (.slice q n c)) := fun W h => by
    obtain ⟨-, -, -, -, -, -, d6⟩ := cells7 h
    exact d6
  have zz := SS.out (w.alloc (.cells #[.int .i64 6, .string s, .int .i64 v.a, .int .i64 v.b, .int .i64 v.c, .int .i64 v.d, .slice q n c] 36 (0, 0))) new0
  have zd := SS.out ((w.alloc (.cells #[.int .i64 6, .string s, .int .i64 v.a, .int .i64 v.b, .int .i64 v.c, .int .i64 v.d, .slice q n c] 36 (0, 0))).drewN 1) new0
  have BX := HO.out ((w.alloc (.cells #[.int .i64 6, .string s, .int .i64 v.a, .int .i64 v.b, .int .i64 v.c, .int .i64 v.d, .slice q n c] 36 (0, 0))).drewN 1) (below_drewN ((Below.refl _ _).alloc (Nat.le_refl _) _) 1) new0
  clear HO h hz hn hr
  go_enter Try.func12, Try.ntmps12
  go_upto_region 17 with fail
  go_region_held3 (fun W : World => W.cell? ⟨w.heap.size, 6, none⟩ = some (.slice q n c)) (first | (with_reducible assumption) | (with_reducible exact zd) | (exact zd) | (exact zz) | go_keep) (first
    | (go_at_call 20; refine BX.mono ?_; rintro e wA ⟨r1, rfl, hA⟩; have zz := SS.out _ hA.out.2.2)
    | (go_at_call 29; refine (HP.out _ _ hA.out.1 hA.out.2.1 hA.out.2.2).mono ?_; rintro e wB ⟨p, c', rfl, hB⟩; have zz := SS.out _ hB.out.1)
    | (go_at_call 30; refine hB.out.2.mono ?_; rintro e wC ⟨rfl, hC⟩; have zz := SS.out _ hC.out.2))
  all_goals go_wp2_with fail
  all_goals go_ret
  all_goals exact ⟨by simp, hC.out.1⟩
set_option maxHeartbeats 2000000 in
set_option maxRecDepth 100000 in
theorem step7 (h : Hid (P0 w0 w NX pb rb)) (s : ByteArray) (v : V) (q : Option Addr) (n c : Nat) :
    Calls Try.prog 12 #[.pointer (some ⟨pb, 0, none⟩), .pointer (some ⟨rb, 0, none⟩), .agg #[.int .i64 7, .string s, .int .i64 v.a, .int .i64 v.b, .int .i64 v.c, .int .i64 v.d, .slice q n c]] w (StR w0 pb rb) := by
  have HN : Hid (∃ k : Nat, ∀ W, Below w.heap.size w W → Calls Try.prog 17 #[.pointer (some ⟨pb, 0, none⟩)] W fun e w1 => ∃ p c1, e = .returned (.slice p k c1) ∧ Hid (Calls Try.prog 13 #[.pointer (some ⟨rb, 0, none⟩)] w1 fun e w2 => ∃ p2 c2, e = .returned (.slice p2 k c2) ∧ Hid (Calls Try.prog 16 #[.slice p k c1, .slice p2 k c2] w2 fun e w3 => e = .returned (.bool true) ∧ Hid (Below w.heap.size w w3)))) := by
    obtain ⟨D, hD⟩ := h.out
    refine ⟨D.length, fun W b => ?_⟩
    obtain ⟨S, T, h1, h2, -⟩ := (hD.below b).both
    refine (pnames_any h1).mono ?_
    rintro e w1 ⟨p, c1, he, k1⟩
    refine ⟨p, c1, he, (rnames_any (h2.keepB k1.out.2)).mono ?_⟩
    rintro e w2 ⟨p2, c2, he2, k2⟩
    refine ⟨p2, c2, he2, ?_⟩
    have hl := h1.len
    refine (rsame_raw w2 D.length c1 c2 _ _ p p2 (D.map A.nm) (k1.out.1.below k2.out.2) k2.out.1 (by omega)).mono ?_
    rintro e w3 ⟨he3, k3⟩
    refine ⟨he3, ?_⟩
    have b1 := b.trans (k1.out.2.mono b.size)
    have b2 := b1.trans (k2.out.2.mono b1.size)
    exact b2.trans (k3.out.mono b2.size)
  obtain ⟨k, HN⟩ := HN.out
  have A1 := HN (w.alloc (.cells #[.int .i64 7, .string s, .int .i64 v.a, .int .i64 v.b, .int .i64 v.c, .int .i64 v.d, .slice q n c] 36 (0, 0))) ((Below.refl _ _).alloc (Nat.le_refl _) _)
  clear HN
  go_enter Try.func12, Try.ntmps12
  go_wp2_with (first
    | (go_at_call 17; refine A1.mono ?_; rintro e w1 ⟨p, c1, rfl, k1⟩)
    | (go_at_call 13; refine k1.out.mono ?_; rintro e w2 ⟨p2, c2, rfl, k2⟩)
    | (go_at_call 16; refine k2.out.mono ?_; rintro e w3 ⟨rfl, k3⟩))
  go_ret
  exact ⟨rfl, h.out.below k3.out⟩
set_option maxHeartbeats 2000000 in
set_option maxRecDepth 100000 in
theorem step0 (h : Hid (P0 w0 w NX pb rb)) (k : Int) (h1 : ¬ k = 1) (h2 : ¬ k = 2) (h3 : ¬ k = 3) (h4 : ¬ k = 4) (h5 : ¬ k = 5) (h6 : ¬ k = 6) (h7 : ¬ k = 7) (s : ByteArray) (v : V) (q : Option Addr) (n c : Nat) :
    Calls Try.prog 12 #[.pointer (some ⟨pb, 0, none⟩), .pointer (some ⟨rb, 0, none⟩), .agg #[.int .i64 k, .string s, .int .i64 v.a, .int .i64 v.b, .int .i64 v.c, .int .i64 v.d, .slice q n c]] w (StR w0 pb rb) := by
  go_enter Try.func12, Try.ntmps12
  go_wp2_with fail
  go_ret
  exact ⟨rfl, h.out.below ((Below.refl _ _).alloc (Nat.le_refl _) _)⟩
end
end Go.Proofs.Ytehgcaaeifnjeaa
