/-
  A profile in memory; where a tick stands.
-/
import Derived.Test.YtjgibngnjlciaaaGreatPDa
namespace Go.Proofs.YtjgibngnjlciaaaGreat
open Go.RowKit Go.Maps

structure PS where
  C : V
  lv : Value
  l : List Stp
  n : Nat
structure Mem (w : World) (pb : Nat) (S : PS) : Prop where
  hp : w.heap[pb]? = some (.cells #[.int .i64 S.C.a, .int .i64 S.C.b, .int .i64 S.C.c, .int .i64 S.C.d, S.lv, .int .i64 S.n] 111 (0, 0))
  rw : Row w S.lv S.l
/-- the profile's blocks -/
def Fp (pb : Nat) (S : PS) (k : Nat) : Prop := k = pb ∨ S.lv.ownBlock = some k
structure Chg (pb : Nat) (S S' : PS) (w w' : World) : Prop where
  kp : Kp (Fp pb S) w w'
  fp : ∀ k, Fp pb S' k → Fp pb S k ∨ w.heap.size ≤ k
section
variable {w w' w1 w2 : World} {pb : Nat} {S S' S1 S2 : PS}
theorem Chg.refl (pb : Nat) (S : PS) (w : World) : Chg pb S S w w := ⟨Kp.refl _ w, fun _ h => .inl h⟩
theorem Chg.trans (h : Chg pb S S1 w w1) (k : Chg pb S1 S2 w1 w2) : Chg pb S S2 w w2 :=
  ⟨h.kp.trans k.kp fun i hi q => (h.fp i q).elim id fun q => absurd hi (by omega), fun i q => (k.fp i q).elim (fun q => h.fp i q) fun q => .inr (Nat.le_trans h.kp.size q)⟩
theorem Chg.of_below (b : Below w.heap.size w w') : Chg pb S S w w' := ⟨Kp.of_below b, fun _ h => .inl h⟩
theorem Mem.lt (h : Mem w pb S) (k : Nat) (hk : Fp pb S k) : k < w.heap.size := by
  rcases hk with rfl | hk
  · exact (Array.getElem?_eq_some_iff.1 h.hp).1
  · exact h.rw.lt hk
theorem Mem.keep (h : Mem w pb S) (b : ∀ k, Fp pb S k → w'.heap[k]? = w.heap[k]?) : Mem w' pb S :=
  ⟨(b pb (.inl rfl)).trans h.hp, h.rw.keep fun g hg => b g (.inr hg)⟩
theorem Mem.below (h : Mem w pb S) (b : Below w.heap.size w w') : Mem w' pb S := h.keep fun k hk => b.block k (h.lt k hk)
theorem Mem.cells (h : Mem w pb S) : w.cell? ⟨pb, 0, none⟩ = some (.int .i64 S.C.a) ∧ w.cell? ⟨pb, 1, none⟩ = some (.int .i64 S.C.b) ∧ w.cell? ⟨pb, 2, none⟩ = some (.int .i64 S.C.c) ∧ w.cell? ⟨pb, 3, none⟩ = some (.int .i64 S.C.d) ∧ w.cell? ⟨pb, 4, none⟩ = some S.lv ∧ w.cell? ⟨pb, 5, none⟩ = some (.int .i64 S.n) := by
  refine ⟨?_, ?_, ?_, ?_, ?_, ?_⟩ <;> (rw [cell_of h.hp]; rfl)
theorem Mem.ne (h : Mem w pb S) : S.lv.ownBlock ≠ some pb := fun e => by
  obtain ⟨a, c, hv⟩ := h.rw.shape
  rcases h.rw.2 with ⟨e0, _⟩ | ⟨g, cap, cur, e0, hb, hgg, _⟩
  · rw [e0] at e; cases e
  · rw [e0] at e
    cases e
    have := h.hp
    rw [hgg] at this
    cases this
end
set_option maxHeartbeats 400000 in
theorem less_at (w : World) (pb b1 b2 g n c i : Nat) (x at' : Int) (hi : i < n) (c1 : w.cell? ⟨b1, 0, none⟩ = some (.pointer (some ⟨pb, 0, none⟩))) (c2 : w.cell? ⟨b2, 0, none⟩ = some (.int .i64 at')) (c3 : w.cell? ⟨pb, 4, none⟩ = some (.slice (some ⟨g, 0, none⟩) n c)) (c4 : w.cell? ⟨g, i * 5, none⟩ = some (.int .i64 x)) :
    Calls Tryz.prog 89 #[.int .i64 i, .pointer (some ⟨b1, 0, none⟩), .pointer (some ⟨b2, 0, none⟩)] w fun e w' => e = .returned (.bool (decide (at' < x))) ∧ Below w.heap.size w w' := by
  have hi' : (i : Int) < (n : Int) := by omega
  go_enter Tryz.func89, Tryz.ntmps89
  go_wp2_with fail
  go_quiet (fail)
  go_wp2_with fail
  go_ret
  exact ⟨rfl, below_drewN (Below.refl _ _) _⟩
set_option maxHeartbeats 1000000 in
theorem search_any (w : World) (n : Nat) (f : Nat → Bool) (p1 p2 : Value) (hn : n ≤ 60000) (hf : ∀ i, i < n → ∀ W, Below w.heap.size w W → Calls Tryz.prog 89 #[.int .i64 i, p1, p2] W fun e w' => e = .returned (.bool (f i)) ∧ Below W.heap.size W w') :
    Calls Tryz.prog 88 #[.int .i64 n, .func (.func 89) #[] #[p1, p2]] w fun e w' => ∃ k : Nat, e = .returned (.int .i64 k) ∧ Hid (k ≤ n ∧ (0 < k → f (k - 1) = false) ∧ (k < n → f k = true)) ∧ Below w.heap.size w w' := by
  have HF : Hid (∀ i, i < n → ∀ W, Below w.heap.size w W → Calls Tryz.prog 89 #[.int .i64 i, p1, p2] W fun e w' => e = .returned (.bool (f i)) ∧ Below W.heap.size W w') := hf
  clear hf
  go_enter Tryz.func88, Tryz.ntmps88
  go_wp2_with fail
  go_loopw [5, 6] (fun t5 t6 wr => ∃ i j : Nat, t5 = .int .i64 i ∧ t6 = .int .i64 j ∧ i ≤ j ∧ j ≤ n ∧ Hid ((0 < i → f (i - 1) = false) ∧ (j < n → f j = true)) ∧ Hid (Below w.heap.size w wr)) (fun t5 t6 _ => (intOf t6).toNat - (intOf t5).toNat)
  case atStart => exact ⟨0, n, rfl, rfl, Nat.zero_le _, Nat.le_refl _, ⟨fun h => absurd h (by omega), fun h => absurd h (by omega)⟩, Below.refl _ _⟩
  case round =>
    obtain ⟨i, j, rfl, rfl, hij, hjn, HK, HB⟩ := hrel
    by_cases he : i = j
    · subst he
      go_wp2_with fail
      go_ret
      exact ⟨i, rfl, ⟨hjn, HK.out⟩, HB.out⟩
    · have hlt : (i : Int) < (j : Int) := by omega
      obtain ⟨m, hm1, hm2, hm3⟩ : ∃ m : Nat, ((i : Int) + (j : Int)) / 2 = (m : Int) ∧ i ≤ m ∧ m < j := ⟨(i + j) / 2, by omega, by omega, by omega⟩
      have H := (show Hid (Calls Tryz.prog 89 #[.int .i64 m, p1, p2] wr fun e w' => e = .returned (.bool (f m)) ∧ Below wr.heap.size wr w') from HF.out m (by omega) wr HB.out)
      cases hfm : f m
      · rw [hfm] at H
        go_wp2_with (go_at_call 89; refine H.out.mono ?_; rintro e w1 ⟨rfl, b1⟩)
        refine ⟨⟨m + 1, j, by simp, rfl, by omega, hjn, ⟨fun _ => by rw [Nat.add_sub_cancel]; exact hfm, HK.out.2⟩, HB.out.trans (b1.mono HB.out.size)⟩, ?_⟩
        simp only [intOf]; omega
      · rw [hfm] at H
        go_wp2_with (go_at_call 89; refine H.out.mono ?_; rintro e w1 ⟨rfl, b1⟩)
        refine ⟨⟨i, m, rfl, rfl, by omega, by omega, ⟨HK.out.1, fun _ => hfm⟩, HB.out.trans (b1.mono HB.out.size)⟩, ?_⟩
        simp only [intOf]; omega
theorem search_k {L : List Stp} (hs : Srt L) {t : Int} {k : Nat} (hk : k ≤ L.length) (h1 : ∀ s, 0 < k → L[k - 1]? = some s → ¬ t < s.at') (h2 : ∀ s, L[k]? = some s → t < s.at') : IsK L t k := by
  refine ⟨hk, fun i s hi hik => ?_, fun i s hi hik => ?_⟩
  · have hl : k - 1 < L.length := by omega
    have h3 := h1 L[k - 1] (by omega) (List.getElem?_eq_getElem hl)
    by_cases e : i = k - 1
    · subst e
      rw [List.getElem?_eq_getElem hl] at hi
      cases hi
      omega
    · have := hs.lt (show i < k - 1 by omega) hi (List.getElem?_eq_getElem hl)
      omega
  · by_cases e : i = k
    · subst e; exact h2 s hi
    · have hl : k < L.length := by have := (List.getElem?_eq_some_iff.1 hi).1; omega
      have h3 := h2 L[k] (List.getElem?_eq_getElem hl)
      have := hs.lt (show k < i by omega) (List.getElem?_eq_getElem hl) hi
      omega
set_option maxHeartbeats 1000000 in
theorem stretch_at (w : World) (pb : Nat) (p : Option Addr) (n c : Nat) (t : Int) (c3 : w.cell? ⟨pb, 4, none⟩ = some (.slice p n c)) (hpb : pb < w.heap.size) (Q : Nat → Prop)
    (H : Hid (∀ W, Below w.heap.size w W → W.cell? ⟨w.heap.size, 0, none⟩ = some (.pointer (some ⟨pb, 0, none⟩)) → W.cell? ⟨w.heap.size + 1, 0, none⟩ = some (.int .i64 t) → Calls Tryz.prog 88 #[.int .i64 n, .func (.func 89) #[] #[.pointer (some ⟨w.heap.size, 0, none⟩), .pointer (some ⟨w.heap.size + 1, 0, none⟩)]] W fun e w' => ∃ k : Nat, e = .returned (.int .i64 k) ∧ Hid (Q k) ∧ Below W.heap.size W w')) :
    Calls Tryz.prog 68 #[.pointer (some ⟨pb, 0, none⟩), .int .i64 t] w fun e w' => ∃ k : Nat, e = .returned (.int .i64 k) ∧ Hid (Q k) ∧ Below w.heap.size w w' := by
  have e1 : ¬ pb = w.heap.size := by omega
  go_enter Tryz.func68, Tryz.ntmps68
  go_wp2_with (go_at_call 88; refine (H.out _ (by go_grown) ?_ ?_).mono ?_)
  · rw [cell_of (at_alloc new0)]; rfl
  · rw [cell_of new1]; rfl
  rintro e w1 ⟨k, rfl, hq, b1⟩
  go_wp2_with fail
  go_ret
  exact ⟨k, rfl, hq, Below.trans (by go_grown) (b1.mono (by simp; omega))⟩
theorem stretch_any {w : World} {pb : Nat} {S : PS} (h : Mem w pb S) (hs : Srt S.l) (hn : S.l.length ≤ 60000) (t : Int) :
    Calls Tryz.prog 68 #[.pointer (some ⟨pb, 0, none⟩), .int .i64 t] w fun e w' => ∃ k : Nat, e = .returned (.int .i64 k) ∧ Hid (IsK S.l t k) ∧ Below w.heap.size w w' := by
  obtain ⟨p, c, e⟩ := h.rw.shape
  have hc := h.cells.2.2.2.2.1
  rw [e] at hc
  refine stretch_at w pb p S.l.length c t hc (h.lt pb (.inl rfl)) _ fun W b q1 q2 => ?_
  refine (search_any W S.l.length (fun i => decide (t < (S.l[i]?.getD default).at')) _ _ hn fun i hi W2 b2 => ?_).mono ?_
  · obtain ⟨g, c', e'⟩ := h.rw.row (by omega)
    have h2 := (h.below b).below b2
    have hR := h2.rw
    rw [e'] at hR
    have hc2 := h2.cells.2.2.2.2.1
    rw [e'] at hc2
    have := less_at W2 pb w.heap.size (w.heap.size + 1) g S.l.length c' i _ t hi (cell_below q1 b2) (cell_below q2 b2) hc2 (hR.cells (List.getElem?_eq_getElem hi)).1
    rwa [List.getElem?_eq_getElem hi, Option.getD_some]
  · rintro e' w' ⟨k, rfl, hk, b2⟩
    obtain ⟨k1, k2, k3⟩ := hk.out
    refine ⟨k, rfl, search_k hs k1 (fun s h0 hs' => ?_) (fun s hs' => ?_), b2⟩
    · have := k2 h0
      rw [hs'] at this
      simpa using this
    · have := k3 (List.getElem?_eq_some_iff.1 hs').1
      rw [hs'] at this
      simpa using this
end Go.Proofs.YtjgibngnjlciaaaGreat
