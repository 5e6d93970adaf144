/-
  The reference's Set: the append.
-/
import Derived.Test.YtnjnfbfjmeofaaaRb
import Derived.Deep.RegionLawGrows
namespace Go.Proofs.Ytnjnfbfjmeofaaa
open Go.RowKit Go.Maps Go.WideMaps

set_option maxHeartbeats 400000 in
theorem rset_full (w : World) (rb : Nat) (s : ByteArray) (x : Int) (n : Nat) (q : Option Addr) (c : Nat) (hn : n = 1024) (c0 : w.cell? ⟨rb, 0, none⟩ = some (.slice q n c))
    (H : Hid (Calls Try.prog 30 #[.pointer (some ⟨rb, 0, none⟩), .string s] w fun e w' => e = .returned (.int .i64 (-1)) ∧ w' = w)) :
    Calls Try.prog 21 #[.pointer (some ⟨rb, 0, none⟩), .string s, .int .i64 x] w fun e w' => e = .returned (.int .i64 6) ∧ w' = w := by
  subst hn
  go_enter Try.func21, Try.ntmps21
  go_wp2_with (go_at_call 30; refine H.out.mono ?_; rintro e w1 ⟨rfl, rfl⟩)
  go_ret
  exact ⟨rfl, rfl⟩
/-- the hole at k, while a's place is sought -/
structure Hl (l1 l2 : List Al) (a : Al) (k : Nat) : Prop where
  hn : l2.length = l1.length + 1
  hk : k ≤ l1.length
  lo : ∀ j, j < k → gt l2 j = gt l1 j
  hi : ∀ j, k < j → j ≤ l1.length → gt l2 j = gt l1 (j - 1)
  gr : ∀ j, k ≤ j → j < l1.length → ltB a (gt l1 j) = true
theorem Hl.start (l1 : List Al) (a b : Al) : Hl l1 (l1 ++ [b]) a l1.length :=
  ⟨by rw [List.length_append]; rfl, Nat.le_refl _, fun j hj => gt_app hj, fun j h1 h2 => by omega, fun j h1 h2 => by omega⟩
theorem Hl.step {l1 l2 : List Al} {a : Al} {k : Nat} (h : Hl l1 l2 a (k + 1)) (hl : ltB a (gt l1 k) = true) : Hl l1 (l2.set (k + 1) (gt l2 k)) a k := by
  have hk := h.hk
  have hn := h.hn
  refine ⟨by rw [List.length_set]; exact hn, by omega, fun j hj => ?_, fun j h1 h2 => ?_, fun j h1 h2 => ?_⟩
  · rw [gt_set (by omega), if_neg (by omega)]
    exact h.lo j (by omega)
  · rw [gt_set (by omega)]
    split
    · rename_i e
      subst e
      exact h.lo k (by omega)
    · exact h.hi j (by omega) h2
  · by_cases e : j = k
    · rw [e]; exact hl
    · exact h.gr j (by omega) h2
theorem list_ext {l m : List Al} (h1 : l.length = m.length) (h2 : ∀ j, j < l.length → gt l j = gt m j) : l = m := by
  apply List.ext_getElem? 
  intro j
  by_cases hj : j < l.length
  · rw [gt_some hj, gt_some (by omega), h2 j hj]
  · rw [List.getElem?_eq_none (by omega), List.getElem?_eq_none (by omega)]
theorem ins_at {a : Al} : ∀ {l : List Al} {k : Nat}, k ≤ l.length → (∀ j, j < k → ltB a (gt l j) = false) → (k < l.length → ltB a (gt l k) = true) → ins a l = l.take k ++ a :: l.drop k
  | [], k, hk, _, _ => by
    have : k = 0 := by simpa using hk
    subst this
    rfl
  | b :: r, 0, _, _, h => by
    unfold ins
    have h1 : ltB a b = true := h (by simp)
    rw [if_pos h1]
    rfl
  | b :: r, k + 1, hk, hj, h => by
    unfold ins
    have h1 : ltB a b = false := hj 0 (by omega)
    rw [if_neg (by rw [h1]; decide), ins_at (l := r) (k := k) (by simpa using hk) (fun j q => hj (j + 1) (by omega)) (fun q => h (by simpa using q))]
    rfl
theorem Hl.done {l1 l2 : List Al} {a : Al} {k : Nat} (h : Hl l1 l2 a k) (hs : Srt l1) (hk : k = 0 ∨ ltB a (gt l1 (k - 1)) = false) : l2.set k a = ins a l1 := by
  have hkl := h.hk
  have hn := h.hn
  rw [ins_at (k := k) hkl ?_ (fun q => h.gr k (Nat.le_refl _) q)]
  · refine list_ext (by rw [List.length_set, hn]; simp; omega) fun j hj => ?_
    rw [List.length_set] at hj
    rw [gt_set (by omega)]
    have e1 : gt (l1.take k ++ a :: l1.drop k) j = if j < k then gt l1 j else if j = k then a else gt l1 (j - 1) := by
      unfold gt
      rw [List.getD_eq_getElem?_getD]
      by_cases q : j < k
      · rw [List.getElem?_append_left (by rw [List.length_take]; omega), List.getElem?_take_of_lt q, if_pos q, List.getD_eq_getElem?_getD]
      · rw [List.getElem?_append_right (by rw [List.length_take]; omega), List.length_take, Nat.min_eq_left hkl, if_neg q]
        by_cases q' : j = k
        · subst q'
          rw [if_pos rfl, Nat.sub_self]
          rfl
        · rw [if_neg q', show j - k = (j - k - 1) + 1 by omega, List.getElem?_cons_succ, List.getElem?_drop, List.getD_eq_getElem?_getD]
          congr 2
          omega
    rw [e1]
    by_cases q : j = k
    · rw [if_pos q, if_neg (by omega), if_pos q]
    · rw [if_neg q]
      by_cases q' : j < k
      · rw [if_pos q']; exact h.lo j q'
      · rw [if_neg q', if_neg q]; exact h.hi j (by omega) (by omega)
  · intro j hj
    rcases hk with rfl | hk
    · omega
    · by_cases e : j = k - 1
      · rw [e]; exact hk
      · have h1 : lt (gt l1 j) (gt l1 (k - 1)) := by
          have := List.pairwise_iff_getElem.1 hs j (k - 1) (by omega) (by omega) (by omega)
          rw [gt_of (List.getElem?_eq_getElem (show j < l1.length by omega)), gt_of (List.getElem?_eq_getElem (show k - 1 < l1.length by omega))]
          exact this
        exact le_trans (lt_le h1) hk
/-- behind the append: the row, the clock's cell, the box -/
structure Ap (w0 W : World) (rb bx : Nat) (v1 : Value) (g o c : Nat) (l : List Al) (a : Al) : Prop where
  b : W.heap[rb]? = some (.cells #[.slice (some ⟨g, o, none⟩) l.length c] 29 (0, 0))
  li : Lie W g o c l
  x : W.heap[bx]? = some (.cells #[.string a.nm, .int .i64 a.at'] 47 (0, 0))
  ne : g ≠ bx ∧ g ≠ rb ∧ bx ≠ rb
  kp : Kp (Fr rb v1) w0 W
  lo : v1.ownBlock = some g ∨ w0.heap.size ≤ g
  bo : w0.heap.size ≤ bx
/-- ahead of the append: the reference as it stands, and where it came from -/
structure Md (w W : World) (rb : Nat) (v v1 : Value) (l1 : List Al) : Prop where
  g : Rg2 w W rb v v1 l1
  n : l1.length < 1024
theorem lie_cells {w : World} {g o c : Nat} {l : List Al} (h : Lie w g o c l) : ∀ j u, (flat l)[j]? = some u → w.cell? ((⟨g, o, none⟩ : Addr).add j) = some u := fun j u hu => by
  rw [add2]
  exact h.rowV j u hu
theorem lie_grow {w : World} {g o c n : Nat} {l : List Al} (h : Lie w g o c l) (hn : l.length = n) (hc : n + 1 ≤ c) (a : Al) : Lie ((w.setCell ⟨g, o + n * 2, none⟩ (.string a.nm)).setCell ⟨g, o + n * 2 + 1, none⟩ (.int .i64 a.at')) g o c (l ++ [a]) := by
  obtain ⟨cs, h1, h2, h3⟩ := h.ex
  have hl : (l ++ [a]).length = n + 1 := by rw [List.length_append, hn]; rfl
  refine ⟨⟨(cs.setIfInBounds (o + n * 2) (.string a.nm)).setIfInBounds (o + n * 2 + 1) (.int .i64 a.at'), setB (setB h1 _) _, by rw [Array.size_setIfInBounds, Array.size_setIfInBounds]; exact h2, ?_⟩, by rw [hl]; exact hc, h.mx⟩
  rw [hl, Array.toList_setIfInBounds, Array.toList_setIfInBounds, List.drop_set, List.drop_set, if_neg (by omega), if_neg (by omega), show o + n * 2 - o = n * 2 by omega, show o + n * 2 + 1 - o = n * 2 + 1 by omega, flat_append]
  rw [hn] at h3
  have hX : (n + 1) * 2 ≤ (cs.toList.drop o).length := by rw [List.length_drop, Array.length_toList]; omega
  generalize cs.toList.drop o = X at *
  have hfl : (flat l).length = n * 2 := by rw [flat_length, hn]
  apply List.ext_getElem?
  intro j
  by_cases q1 : j < n * 2
  · rw [List.getElem?_take_of_lt (by omega), List.getElem?_set_ne (by omega), List.getElem?_set_ne (by omega), List.getElem?_append_left (by omega), ← h3, List.getElem?_take_of_lt q1]
  · rw [List.getElem?_append_right (by omega), hfl]
    by_cases q2 : j = n * 2
    · subst q2
      rw [List.getElem?_take_of_lt (by omega), List.getElem?_set_ne (by omega), List.getElem?_set_self (by omega), Nat.sub_self]
      rfl
    · by_cases q3 : j = n * 2 + 1
      · subst q3
        rw [List.getElem?_take_of_lt (by omega), List.getElem?_set_self (by rw [List.length_set]; omega), show n * 2 + 1 - n * 2 = 1 by omega]
        rfl
      · rw [List.getElem?_eq_none (by rw [List.length_take]; omega), List.getElem?_eq_none (by show 2 ≤ j - n * 2; omega)]
section
variable {W V : World} {rb n : Nat} {v1 : Value} {l1 : List Al} {a : Al}
theorem ap_room {g o c : Nat} (hr : Rf W rb (.slice (some ⟨g, o, none⟩) n c) l1) (hl : l1.length = n) (hL : Lie W g o c l1) (hnc : n + 1 ≤ c) (hB : Below W.heap.size W V) (hx : V.heap[W.heap.size]? = some (.cells #[.string a.nm, .int .i64 a.at'] 47 (0, 0))) :
    Ap W (((V.setCell ⟨g, o + n * 2, none⟩ (.string a.nm)).setCell ⟨g, o + n * 2 + 1, none⟩ (.int .i64 a.at')).setCell ⟨rb, 0, none⟩ (.slice (some ⟨g, o, none⟩) (n + 1) c)) rb W.heap.size (.slice (some ⟨g, o, none⟩) n c) g o c (l1 ++ [a]) a := by
  have hrb := (Array.getElem?_eq_some_iff.1 hr.b).1
  have hgl := hL.lt
  have hgr : g ≠ rb := fun q => hr.r.ne hr.b (by decide) (by rw [← q]; rfl)
  have e1 : ∀ j, j ≠ g → ((V.setCell ⟨g, o + n * 2, none⟩ (.string a.nm)).setCell ⟨g, o + n * 2 + 1, none⟩ (.int .i64 a.at')).heap[j]? = V.heap[j]? := fun j hj => (Below.heap_setCell _ _ _ _ hj).trans (Below.heap_setCell _ _ _ _ hj)
  have hb : ((V.setCell ⟨g, o + n * 2, none⟩ (.string a.nm)).setCell ⟨g, o + n * 2 + 1, none⟩ (.int .i64 a.at')).heap[rb]? = some (.cells #[.slice (some ⟨g, o, none⟩) n c] 29 (0, 0)) := (e1 rb (Ne.symm hgr)).trans ((hB.block rb hrb).trans hr.b)
  have hlen : (l1 ++ [a]).length = n + 1 := by rw [List.length_append, hl]; rfl
  refine ⟨?_, ?_, ?_, ⟨by omega, hgr, by omega⟩, ?_, .inl rfl, Nat.le_refl _⟩
  · rw [hlen]; exact setB hb _
  · exact (lie_grow (hL.keep (hB.block g hgl)) hl hnc a).keep (Below.heap_setCell _ _ _ _ hgr)
  · exact (Below.heap_setCell _ _ _ _ (show W.heap.size ≠ rb by omega)).trans ((e1 _ (show W.heap.size ≠ g by omega)).trans hx)
  · exact (Kp.of_below hB).trans (((Kp.of_set (S := Fr rb (.slice (some ⟨g, o, none⟩) n c)) V ⟨g, o + n * 2, none⟩ _ (.inr rfl)).trans (Kp.of_set (S := Fr rb (.slice (some ⟨g, o, none⟩) n c)) _ ⟨g, o + n * 2 + 1, none⟩ _ (.inr rfl)) fun _ _ h => h).trans (Kp.of_set (S := Fr rb (.slice (some ⟨g, o, none⟩) n c)) _ ⟨rb, 0, none⟩ _ (.inl rfl)) fun _ _ h => h) fun _ _ h => h
theorem ap_grow {V2 : World} {v' : Value} (hr : Rf W rb v1 l1) (hl : l1.length = n) (hB : Below W.heap.size W V) (hx : V.heap[W.heap.size]? = some (.cells #[.string a.nm, .int .i64 a.at'] 47 (0, 0))) (ho : V2.ownsRow V.heap.size 47 2 v' (n + 1) (flat l1 ++ flat [a])) (hg : V.grownBy V2 none) :
    ∃ g c, v' = .slice (some ⟨g, 0, none⟩) (n + 1) c ∧ V2.heap[rb]? = some (.cells #[v1] 29 (0, 0)) ∧ Ap W (V2.setCell ⟨rb, 0, none⟩ (.slice (some ⟨g, 0, none⟩) (n + 1) c)) rb W.heap.size v1 g 0 c (l1 ++ [a]) a := by
  have hrb := (Array.getElem?_eq_some_iff.1 hr.b).1
  have hs := hB.size
  have hlen : (l1 ++ [a]).length = n + 1 := by rw [List.length_append, hl]; rfl
  rw [← flat_append] at ho
  have hxl := (Array.getElem?_eq_some_iff.1 hx).1
  rcases ho.2 with ⟨_, h0⟩ | ⟨g, cap, cur, e, hb, hgg, h1⟩
  · omega
  · subst e
    have hb2 : V2.heap[rb]? = some (.cells #[v1] 29 (0, 0)) := (hg.block rb (by omega) (by intro q; cases q)).trans ((hB.block rb hrb).trans hr.b)
    refine ⟨g, cap, rfl, hb2, ?_, ?_, ?_, ⟨by omega, by omega, by omega⟩, ?_, .inr (by omega), Nat.le_refl _⟩
    · rw [hlen]; exact setB hb2 _
    · exact (Lie.of_own ho hlen).keep (Below.heap_setCell _ _ _ _ (show g ≠ rb by omega))
    · exact (Below.heap_setCell _ _ _ _ (show W.heap.size ≠ rb by omega)).trans ((hg.block _ hxl (by intro q; cases q)).trans hx)
    · have k1 : Kp (Fr rb v1) V V2 := ⟨hg.os, hg.tape, hg.output, hg.size, fun j hj _ => hg.block j hj (by intro q; cases q)⟩
      exact (Kp.of_below hB).trans (k1.trans (Kp.of_set (S := Fr rb v1) V2 ⟨rb, 0, none⟩ _ (.inl rfl)) fun _ _ h => h) fun _ _ h => h
end
end Go.Proofs.Ytnjnfbfjmeofaaa
