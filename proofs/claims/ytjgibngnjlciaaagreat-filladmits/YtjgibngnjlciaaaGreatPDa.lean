/-
  slices.Delete of one step; slices.Clone.
-/
import Derived.Test.YtjgibngnjlciaaaGreatPIb
namespace Go.Proofs.YtjgibngnjlciaaaGreat
open Go.RowKit Go.Maps

/-- a block behind a row of cells that is set -/
theorem setCells_at {t : TypeId} {g : Nat} : ∀ (vs : List Value) (o : Nat) (w : World) (cur : Array Value), w.heap[g]? = some (.cells cur t (0, 0)) → o + vs.length ≤ cur.size →
    ∃ cur' : Array Value, (w.setCells g o vs).heap[g]? = some (.cells cur' t (0, 0)) ∧ cur'.size = cur.size ∧ ∀ j, cur'[j]? = if o ≤ j ∧ j < o + vs.length then vs[j - o]? else cur[j]?
  | [], o, w, cur, h, _ => ⟨cur, h, rfl, fun j => by rw [if_neg (by simp)]⟩
  | v :: r, o, w, cur, h, hl => by
    simp only [List.length_cons] at hl
    have h1 := setB (i := o) h v
    obtain ⟨cur', e1, e2, e3⟩ := setCells_at r (o + 1) _ _ h1 (by simp; omega)
    refine ⟨cur', e1, by rw [e2]; simp, fun j => ?_⟩
    rw [e3 j]
    by_cases h2 : o + 1 ≤ j ∧ j < o + 1 + r.length
    · rw [if_pos h2, if_pos (by simp; omega), show j - o = (j - (o + 1)) + 1 by omega, List.getElem?_cons_succ]
    · rw [if_neg h2]
      by_cases h3 : j = o
      · subst h3
        rw [if_pos (by simp), Nat.sub_self]
        simp only [List.getElem?_cons_zero]
        rw [Array.getElem?_setIfInBounds_self_of_lt (by omega)]
      · rw [if_neg (by simp; omega)]
        rw [Array.getElem?_setIfInBounds_ne (Ne.symm h3)]
theorem setCells_ne (g : Nat) {k : Nat} (hk : k ≠ g) : ∀ (vs : List Value) (o : Nat) (w : World), (w.setCells g o vs).heap[k]? = w.heap[k]?
  | [], _, _ => rfl
  | _ :: r, o, _ => (setCells_ne g hk r (o + 1) _).trans (Below.heap_setCell _ _ _ _ hk)
theorem setCells_kp (g : Nat) : ∀ (vs : List Value) (o : Nat) (w : World), Kp (fun k => k = g) w (w.setCells g o vs)
  | [], _, w => Kp.refl _ w
  | v :: r, o, w => (Kp.of_set (S := fun k => k = g) w ⟨g, o, none⟩ v rfl).trans (setCells_kp g r (o + 1) _) fun _ _ q => q
theorem run_clear5 (w : World) (ty : TypeId) (g o c : Nat) (cur : Array Value) (t : TypeId) (hg : w.heap[g]? = some (.cells cur t (0, 0))) (hf : o + 5 ≤ cur.size) :
    (Builtin.clear_ #[93] ty #[.slice (some ⟨g, o, none⟩) 1 c]).run Tryz.prog w = .ok (.tuple #[]) (w.setRow g (spl cur.toList o [.int .i64 0, .int .i64 0, .int .i64 0, .int .i64 0, .int .i64 0]).toArray) := by
  have hst := run_storeCells_at Tryz.prog g o t [.int .i64 0, .int .i64 0, .int .i64 0, .int .i64 0, .int .i64 0] 0 cur w hg (by simpa using hf) (by simp; rfl)
  have hz : (Builtin.zeroCells (Value.agg #[.int .i64 0, .int .i64 0, .int .i64 0, .int .i64 0, .int .i64 0]).cells 1).toList = [.int .i64 0, .int .i64 0, .int .i64 0, .int .i64 0, .int .i64 0] := by kernel_rfl
  simp [Builtin.clear_, run_underlying Tryz.underlying93, Tryz.zeroValue96, hz, hst, spl]
set_option maxHeartbeats 4000000 in
set_option maxRecDepth 100000 in
theorem del_at (w : World) (g c n k : Nat) (cur : Array Value) (l : List Stp) (hg : w.heap[g]? = some (.cells cur 96 (0, 0))) (hs : cur.size = c * 5) (hnc : n ≤ c) (hc : c ≤ 9223372036854775807) (hk : k < n) (hln : l.length = n) (hx : cur.toList.take (n * 5) = flat l) :
    Calls Tryz.prog 94 #[.slice (some ⟨g, 0, none⟩) n c, .int .i64 k, .int .i64 ((k : Int) + 1)] w fun e w' => e = .returned (.slice (some ⟨g, 0, none⟩) (n - 1) c) ∧ Kp (fun j => j = g) w w' ∧ Row w' (.slice (some ⟨g, 0, none⟩) (n - 1) c) (delS l k) := by
  obtain ⟨i0, hi0, hz0, hz1, hz2⟩ := info_parts info46
  have hcell : ∀ j, j < n * 5 → cur[j]? = (flat l)[j]? := fun j hj => by
    rw [← hx, List.getElem?_take, if_pos hj, Array.getElem?_toList]
  obtain ⟨news, hnews⟩ : ∃ news, news = flat (l.drop (k + 1)) := ⟨_, rfl⟩
  have hlen : news.length = (n - (k + 1)) * 5 := by rw [hnews, pflat_length, List.length_drop, hln]
  obtain ⟨A, hA, hsrc⟩ : ∃ A : Addr, (if c = k + 1 then some (⟨g, 0, none⟩ : Addr) else some ⟨g, (k + 1) * 5, none⟩) = some A ∧ Hid (∀ t u, news[t]? = some u → w.drew.cell? (A.add t) = some u) := by
    by_cases h : c = k + 1
    · refine ⟨⟨g, 0, none⟩, by simp [h], fun t u hu => ?_⟩
      rw [List.length_eq_zero_iff.1 (by rw [hlen]; omega : news.length = 0)] at hu
      simp at hu
    · refine ⟨⟨g, (k + 1) * 5, none⟩, by simp [h], fun t u hu => ?_⟩
      have ht := (List.getElem?_eq_some_iff.1 hu).1
      rw [hnews, flat_drop, List.getElem?_drop] at hu
      rw [Addr.add_lit]
      show w.cell? _ = _
      rw [cell_of hg, hcell _ (by omega)]
      exact hu
  have s1 : Hid (news.length = (n - (k + 1)) * 5) := hlen
  have s2 : Hid (∀ u ∈ news, u.oneCell' = true) := by show ∀ u ∈ news, u.oneCell' = true; rw [hnews]; exact flat_one
  have s3 : Hid (∀ t, t < news.length → (w.drew.cell? ⟨g, 0 + k * 5 + t, none⟩).isSome = true ∧ w.drew.frozen? ⟨g, 0 + k * 5 + t, none⟩ = false) := by
    intro t ht
    refine ⟨?_, fz hg _⟩
    show (w.cell? _).isSome = true
    rw [cell_of hg, Array.getElem?_eq_getElem (by omega)]
    rfl
  obtain ⟨W1, hW1⟩ : ∃ W1, W1 = w.drew.setCells g (0 + k * 5) news := ⟨_, rfl⟩
  obtain ⟨cur1, q1, q2, q3⟩ := setCells_at news (0 + k * 5) w.drew cur hg (by rw [hlen]; omega)
  rw [← hW1] at q1
  obtain ⟨W2, hcl, hg2, hk2⟩ : ∃ W2, (∀ ty dc, (Builtin.clear_ #[93] ty #[.slice (some ⟨g, (n - 1) * 5, none⟩) 1 dc]).run Tryz.prog W1 = .ok (.tuple #[]) W2) ∧ W2.heap[g]? = some (.cells (spl cur1.toList ((n - 1) * 5) [.int .i64 0, .int .i64 0, .int .i64 0, .int .i64 0, .int .i64 0]).toArray 96 (0, 0)) ∧ Kp (fun j => j = g) w W2 := by
    refine ⟨_, fun ty dc => run_clear5 W1 ty g ((n - 1) * 5) dc cur1 96 q1 (by omega), setRow_heap _ _ _ _ _ _ q1, Kp.trans (b := W1) ?_ (setRow_kp W1 g _) fun _ _ q => q⟩
    rw [hW1]
    exact ⟨(setCells_kp g news _ w.drew).os, (setCells_kp g news _ w.drew).tape, (setCells_kp g news _ w.drew).output, (setCells_kp g news _ w.drew).size, (setCells_kp g news _ w.drew).block⟩
  have X : Hid (Kp (fun j => j = g) w W2 ∧ Row W2 (.slice (some ⟨g, 0, none⟩) (n - 1) c) (delS l k)) := by
    refine ⟨hk2, ?_⟩
    have hl2 : (delS l k).length = n - 1 := by rw [delS_length _ _ (by omega), hln]
    have hf2 : (n - 1) * 5 + [Value.int .i64 0, .int .i64 0, .int .i64 0, .int .i64 0, .int .i64 0].length ≤ cur1.toList.length := by simp; omega
    have := Row.of_parts (l := delS l k) (g := g) (c := c) hg2 (by rw [List.size_toArray, spl_length hf2, Array.length_toList]; omega) (by omega) hc (by
      rw [hl2, List.toList_toArray]
      apply List.ext_getElem?
      intro j
      rw [List.getElem?_take]
      split
      · rw [spl_get hf2, if_pos (by assumption), Array.getElem?_toList, q3 j]
        unfold delS
        rw [flat_append, List.getElem?_append, pflat_length, List.length_take, Nat.min_eq_left (by omega), ← hnews]
        by_cases h1 : j < k * 5
        · rw [if_neg (by omega), if_pos h1, flat_take, List.getElem?_take, if_pos h1, hcell j (by omega)]
        · rw [if_pos (by omega), if_neg h1, Nat.zero_add]
      · rw [List.getElem?_eq_none (by rw [pflat_length]; omega)])
    rwa [hl2] at this
  have hW : Hid (W1 = w.drew.setCells g (0 + k * 5) news) := hW1
  have hb1 : (0 : Int) ≤ (k : Int) := by omega
  have hb2 : (0 : Int) ≤ (k : Int) + 1 := by omega
  have hb3 : ((k : Int) + 1).toNat = k + 1 := by omega
  have hb4 : (k : Int) + 1 ≤ (n : Int) := by omega
  have hb5 : (k : Int) ≤ (k : Int) + 1 := by omega
  have hb6 : k ≤ k + 1 := by omega
  have hb7 : (k : Int) ≤ (c : Int) := by omega
  have hb8 : k + (n - (k + 1)) = n - 1 := by omega
  have hb9 : ¬ (c = n - 1) := by omega
  have hb10 : n - (n - 1) = 1 := by omega
  have hb11 : ((n - 1 : Nat) : Int) ≤ (n : Int) := by omega
  have hb12 : (k : Int) ≤ (n : Int) := by omega
  have hb13 : (0 : Int) ≤ ((n - 1 : Nat) : Int) := by omega
  have hb14 : (n : Int) ≤ (c : Int) := by omega
  have hne : ((k : Int) == (k : Int) + 1) = false := by simp; omega
  clear hW1 hnews hlen hcell q1 q2 q3 hx hg hs hg2 hk2
  go_enter Tryz.func94, Tryz.ntmps94
  go_wp2_with fail
  go_region_law (refine step_append_room rfl (.tmp 22) (.tmp 25) 93 rfl 96 i0 5 Tryz.underlying93 hi0 hz1 g 0 k c (by simp [Act.eval, Act.put]) A (n - (k + 1)) (c - (k + 1)) news (by simp [Act.eval, Act.put]) s1.out hsrc.out s2.out (by omega) s3.out ?_; rw [← hW.out])
  go_wp2
  go_ret
  exact ⟨rfl, X.out⟩
theorem del_any (w : World) (v : Value) (k : Nat) (l : List Stp) (hr : Row w v l) (hk : k < l.length) :
    Calls Tryz.prog 94 #[v, .int .i64 k, .int .i64 ((k : Int) + 1)] w fun e w' => ∃ v', e = .returned v' ∧ Ins w w' v v' (delS l k) := by
  obtain ⟨g, c, cs, rfl, hg, hs, h1, h2, h3⟩ := hr.parts (by omega)
  refine (del_at w g c l.length k cs l hg hs h1 (by unfold maxLen at h2; omega) hk rfl h3).mono ?_
  rintro e w' ⟨rfl, h4, h5⟩
  exact ⟨_, rfl, h5, h4.mono fun j _ q => by rw [q]; rfl, .inl rfl⟩
theorem q39 (ad : Addr) (n c : Nat) : ∀ w, (binOp .eql 93 (.slice (some ad) n c) (.slice none 0 0)).run Tryz.prog w = .ok (.bool false) w := fun _ => by kernel_rfl
theorem q39n : ∀ w, (binOp .eql 93 (.slice none 0 0) (.slice none 0 0)).run Tryz.prog w = .ok (.bool true) w := fun _ => by kernel_rfl
set_option maxHeartbeats 400000 in
theorem clone_none (w : World) : Calls Tryz.prog 64 #[.slice none 0 0] w fun e w' => e = .returned (.slice none 0 0) ∧ w' = w := by
  have q := q39n
  go_enter Tryz.func64, Tryz.ntmps64
  go_wp2_with fail
  go_ret
  exact ⟨rfl, rfl⟩
theorem Row.rowV {w : World} {g n c : Nat} {l : List Stp} (h : Row w (.slice (some ⟨g, 0, none⟩) n c) l) : RowV w g 0 (flat l) := fun j u hj => by
  have := World.ownsRow.cells h (g := g) rfl j _ hj
  rwa [Addr.add_lit] at this
set_option maxHeartbeats 400000 in
theorem clone_some (w : World) (g n c : Nat) (l : List Stp) (hr : Row w (.slice (some ⟨g, 0, none⟩) n c) l) (hn : n ≤ 60000) :
    Calls Tryz.prog 64 #[.slice (some ⟨g, 0, none⟩) n c] w fun e w' => ∃ v, e = .returned v ∧ Row w' v l ∧ Below w.heap.size w w' ∧ (∀ j, v.ownBlock = some j → w.heap.size ≤ j) := by
  have OW : Hid (Row (w.alloc (.cells #[] 96)) (.slice (some ⟨w.heap.size, 0, none⟩) 0 0) []) := World.ownsRow_made w #[] 0 (Nat.zero_le _) (Nat.zero_le _) rfl
  have y1 : Hid (Below w.heap.size w (w.alloc (.cells #[] 96))) := (Below.refl _ w).alloc (Nat.le_refl _) _
  have HL : Hid (RowV (w.alloc (.cells #[] 96)) g 0 (flat l)) := (hr.below y1.out).rowV
  have HN : Hid (l.length = n) := hr.cap.2.symm
  have q := q39 ⟨g, 0, none⟩ n c
  clear hr
  go_enter Tryz.func64, Tryz.ntmps64
  go_wp2_with (at_builtin; refine append_st (w := w.alloc (.cells #[] 96)) rfl _ _ rfl (.slice (some ⟨w.heap.size, 0, none⟩) 0 0) [] 0 rfl rfl OW.out g 0 c n l rfl HN.out HL.out (by omega) ?_; intro v' w' h1 h2 h3)
  go_ret
  refine ⟨v', rfl, h1, y1.out.trans ⟨h2.os, h2.tape, h2.output, h2.size, fun k hk => h2.block k (by simp; omega) (by simp [Value.ownBlock]; omega)⟩, fun j hj => ?_⟩
  rcases h3 with h3 | h3
  · rw [h3] at hj; cases hj; exact Nat.le_refl _
  · rw [h3] at hj; cases hj; simp
theorem pclone_any (w : World) (v : Value) (l : List Stp) (hr : Row w v l) (hn : l.length ≤ 60000) :
    Calls Tryz.prog 64 #[v] w fun e w' => ∃ v, e = .returned v ∧ Row w' v l ∧ Below w.heap.size w w' ∧ (∀ j, v.ownBlock = some j → w.heap.size ≤ j) := by
  rcases hr.2 with ⟨rfl, h0⟩ | ⟨g, cap, cur, rfl, _⟩
  · obtain rfl := List.length_eq_zero_iff.1 h0
    refine (clone_none w).mono ?_
    rintro e w' ⟨rfl, rfl⟩
    exact ⟨_, rfl, Row.nil _, Below.refl _ _, fun j hj => by cases hj⟩
  · exact clone_some w g l.length cap l hr hn
end Go.Proofs.YtjgibngnjlciaaaGreat
