/-
  Copying and clearing steps; slices.Insert where there is room. slices.Insert of one step.
-/
import Derived.Test.YtjgibngnjlciaaaGreatPRw
namespace Go.Proofs.YtjgibngnjlciaaaGreat
open Go.RowKit

theorem info46 : (Tryz.prog.info? 96).map (fun i => (i.zero, i.size, i.bytes)) = some (some (.agg #[.int .i64 0, .int .i64 0, .int .i64 0, .int .i64 0, .int .i64 0]), 5, 40) := by kernel_rfl
/-- the row behind a copy -/
def spl (L : List Value) (o : Nat) (cs : List Value) : List Value := L.take o ++ cs ++ L.drop (o + cs.length)
theorem spl_length {L cs : List Value} {o : Nat} (h : o + cs.length ≤ L.length) : (spl L o cs).length = L.length := by unfold spl; simp; omega
theorem spl_get {L cs : List Value} {o : Nat} (h : o + cs.length ≤ L.length) (j : Nat) : (spl L o cs)[j]? = if j < o then L[j]? else if j < o + cs.length then cs[j - o]? else L[j]? := by
  unfold spl
  rw [List.getElem?_append, List.getElem?_append]
  simp only [List.length_append, List.length_take, Nat.min_eq_left (show o ≤ L.length by omega)]
  by_cases h1 : j < o
  · rw [if_pos (by omega), if_pos h1, if_pos h1, List.getElem?_take, if_pos h1]
  · rw [if_neg h1]
    by_cases h2 : j < o + cs.length
    · rw [if_pos h2, if_neg h1, if_pos h2]
    · rw [if_neg h2, if_neg h2, List.getElem?_drop, show o + cs.length + (j - (o + cs.length)) = j by omega, if_neg h1]
theorem run_copy5 (w : World) (ty : TypeId) (g o dLen dCap : Nat) (a : Addr) (sLen sCap : Nat) (cur : Array Value) (t : TypeId) (cs : List Value)
    (hg : w.heap[g]? = some (.cells cur t (0, 0))) (hn : cs.length = Nat.min sLen dLen * 5)
    (hsrc : ∀ j v, cs[j]? = some v → w.cell? (a.add j) = some v) (hfit : o + cs.length ≤ cur.size) (h1 : ∀ v ∈ cs, v.oneCell' = true) :
    (Builtin.copy_ #[93, 93] ty #[.slice (some ⟨g, o, none⟩) dLen dCap, .slice (some a) sLen sCap]).run Tryz.prog w =
      .ok (goInt (Nat.min sLen dLen)) (w.setRow g (spl cur.toList o cs).toArray) := by
  have hl := run_loadCells_list (P := Tryz.prog) w a cs hsrc
  have hst := run_storeCells_at Tryz.prog g o t cs 0 cur w hg (by simpa using hfit) h1
  rw [hn] at hl
  simp [Builtin.copy_, run_underlying Tryz.underlying93, Builtin.lenOf, Builtin.firstCells, Tryz.sizeOf96, hl, hst, spl]
theorem wpList_copy_run5 (w : World) {ops : Array Oper} {rest : List Oper} {o : Oper} {a : Act} {Q : Exit → Act → World → Prop} (hgd : o.guard = none) (d s : Operand)
    (ho : o.op = .call { callee := .builtin .copy, args := #[d, s], argTypes := #[93, 93] }) (v u : Value) (hd : a.eval d = v) (hs : a.eval s = u) {v' : Value} {w' : World}
    (hr : (Builtin.copy_ #[93, 93] o.type #[v, u]).run Tryz.prog w = .ok v' w') (h : wpList Tryz.prog ops Q rest (a.put o.dst v') w') : wpList Tryz.prog ops Q (o :: rest) a w := by
  refine wpList_plain hgd fun K hK => ?_
  unfold Oper.wp
  simp [execOp, ho, resolve, invoke, builtin, hd, hs, hr, Result.andThen]
  exact hK _ _ h
theorem step_copy_run5 {ops : Array Oper} {o : Oper} {a : Act} {w : World} {K : Act → World → Prop} {Q : Exit → Act → World → Prop} {E : Prop} (hgd : o.guard = none) (d s : Operand)
    (ho : o.op = .call { callee := .builtin .copy, args := #[d, s], argTypes := #[93, 93] }) (v u : Value) (hd : a.eval d = v) (hs : a.eval s = u) {v' : Value} {w' : World}
    (hr : (Builtin.copy_ #[93, 93] o.type #[v, u]).run Tryz.prog w = .ok v' w') (h : K (a.put o.dst v') w') :
    if Region.wanted o (yielded ops a.tmps) = true then Oper.wp Tryz.prog o a w K Q else E := by
  have hw : Region.wanted o (yielded ops a.tmps) = true := by simp [Region.wanted, hgd]
  rw [if_pos hw]
  unfold Oper.wp
  simp [execOp, ho, resolve, invoke, builtin, hd, hs, hr, Result.andThen]
  exact h
theorem over_false (w : World) (g vb : Nat) (cur vs : Array Value) (o la ca lb cb : Nat) (hne : vb ≠ g) (hg : w.heap[g]? = some (.cells cur 96 (0, 0))) (hv : w.heap[vb]? = some (.cells vs 96 (0, 0))) (hc : cur.size ≠ 0) :
    (callFunc 102 #[.slice (some ⟨vb, 0, none⟩) la ca, .slice (some ⟨g, o, none⟩) lb cb]).run Tryz.prog w = .ok (.value (.bool false)) w := by
  rw [run_callFunc_extern Tryz.func102 (by kernel_rfl) (by kernel_rfl) (by kernel_rfl) (e := Extern.SlicesOverlaps.overlaps #[93, 93] #[4]) (by kernel_rfl),
    Lib.run_overlaps_apart w 93 4 96 Tryz.underlying93 5 Tryz.sizeOf96 ⟨vb, 0, none⟩ ⟨g, o, none⟩ la ca lb cb hne 96 96 vs.size cur.size (by simp [World.shape?, hv]) (by simp [World.shape?, hg]) hc (fz hv _) (fz hv _)]
  rfl
theorem setRow_kp (w : World) (g : Nat) (cs : Array Value) : Kp (fun k => k = g) w (w.setRow g cs) := ⟨rfl, rfl, rfl, by simp [World.setRow], fun k _ hn => setRow_other w g k cs hn⟩

/-- what stands in a row behind a step that is put in -/
theorem ins_cells {l : List Stp} {cur A : List Value} {k n : Nat} {x : Stp} (hk : k ≤ n) (h : cur.take (n * 5) = flat l) (hA : A.take (k * 5) = cur.take (k * 5)) (hx : (A.drop (k * 5)).take 5 = stv x) (hr : (A.drop ((k + 1) * 5)).take ((n - k) * 5) = (flat l).drop (k * 5)) : A.take ((n + 1) * 5) = flat (insS l k x) := by
  unfold insS
  rw [flat_append, flat_take, ← h, List.take_take, Nat.min_eq_left (by omega), ← hA]
  have e1 : flat (x :: l.drop k) = stv x ++ flat (l.drop k) := rfl
  rw [e1, flat_drop, ← hr, ← hx]
  have e2 : (n + 1) * 5 = k * 5 + (5 + (n - k) * 5) := by omega
  rw [e2, List.take_add, List.take_add, List.drop_drop]
  congr 3
  rw [show (k + 1) * 5 = k * 5 + 5 by omega]
set_option maxHeartbeats 4000000 in
set_option maxRecDepth 100000 in
theorem ins_shift (w : World) (g c n k vb vc : Nat) (cur : Array Value) (x : Stp) (l : List Stp) (hg : w.heap[g]? = some (.cells cur 96 (0, 0))) (hs : cur.size = c * 5) (hroom : n + 1 ≤ c) (hc : c ≤ 9223372036854775807) (hk : k < n) (hvb : vb ≠ g)
    (hln : l.length = n) (hx : cur.toList.take (n * 5) = flat l) (hv : w.heap[vb]? = some (.cells (stv x).toArray 96 (0, 0))) :
    Calls Tryz.prog 93 #[.slice (some ⟨g, 0, none⟩) n c, .int .i64 k, .slice (some ⟨vb, 0, none⟩) 1 vc] w fun e w' => e = .returned (.slice (some ⟨g, 0, none⟩) (n + 1) c) ∧
      Kp (fun j => j = g) w w' ∧ Row w' (.slice (some ⟨g, 0, none⟩) (n + 1) c) (insS l k x) := by
  have hov : ∀ o lb cb, (callFunc 102 #[.slice (some ⟨vb, 0, none⟩) 1 vc, .slice (some ⟨g, o, none⟩) lb cb]).run Tryz.prog w = .ok (.value (.bool false)) w := fun o lb cb => over_false w g vb cur _ o 1 vc lb cb hvb hg hv (by omega)
  obtain ⟨M, hM⟩ : ∃ M, M = flat (l.drop k) := ⟨_, rfl⟩
  have hMl : M.length = (n - k) * 5 := by rw [hM, pflat_length, List.length_drop, hln]
  have hl : cur.toList.length = c * 5 := by simpa using hs
  have hMs : ∀ j v, M[j]? = some v → w.drew.cell? ((⟨g, k * 5, none⟩ : Addr).add j) = some v := fun j v hj => by
    rw [Addr.add_lit]
    show w.cell? _ = _
    have hj' := (List.getElem?_eq_some_iff.1 hj).1
    rw [cell_of hg]
    rw [hM, flat_drop, ← hx, List.getElem?_drop, List.getElem?_take, if_pos (by omega), Array.getElem?_toList] at hj
    exact hj
  have hM1 : ∀ v ∈ M, v.oneCell' = true := by rw [hM]; exact flat_one
  have hf1 : (k + 1) * 5 + M.length ≤ cur.toList.length := by rw [hMl, hl]; omega
  obtain ⟨A1, hA1⟩ : ∃ A1, A1 = spl cur.toList ((k + 1) * 5) M := ⟨_, rfl⟩
  have hA1l : A1.length = c * 5 := by rw [hA1, spl_length hf1, hl]
  have hcp1 : ∀ ty dc sc, (Builtin.copy_ #[93, 93] ty #[.slice (some ⟨g, (k + 1) * 5, none⟩) (n - k) dc, .slice (some ⟨g, k * 5, none⟩) (n + 1 - k) sc]).run Tryz.prog w.drew = .ok (goInt (Nat.min (n + 1 - k) (n - k))) (w.drew.setRow g A1.toArray) := fun ty dc sc => by
    rw [hA1]
    exact run_copy5 w.drew ty g ((k + 1) * 5) (n - k) dc ⟨g, k * 5, none⟩ (n + 1 - k) sc cur 96 M hg (by rw [hMl]; simp only [Nat.min_def]; split <;> omega) hMs (by rw [← Array.length_toList]; exact hf1) hM1
  obtain ⟨W1, hW1⟩ : ∃ W1, W1 = w.drew.setRow g A1.toArray := ⟨_, rfl⟩
  rw [← hW1] at hcp1
  have hg1 : W1.heap[g]? = some (.cells A1.toArray 96 (0, 0)) := by rw [hW1]; exact setRow_heap _ _ _ _ _ _ hg
  have hv1 : W1.heap[vb]? = some (.cells (stv x).toArray 96 (0, 0)) := by rw [hW1, setRow_other _ _ _ _ hvb]; exact hv
  have hcp2 : ∀ ty dc, (Builtin.copy_ #[93, 93] ty #[.slice (some ⟨g, k * 5, none⟩) (n + 1 - k) dc, .slice (some ⟨vb, 0, none⟩) 1 vc]).run Tryz.prog W1 = .ok (goInt (Nat.min 1 (n + 1 - k))) (W1.setRow g (spl A1 (k * 5) (stv x)).toArray) := fun ty dc =>
    run_copy5 W1 ty g (k * 5) (n + 1 - k) dc ⟨vb, 0, none⟩ 1 vc A1.toArray 96 (stv x) hg1 (by simp only [Nat.min_def, stv, List.length_cons, List.length_nil]; split <;> omega) (fun j v hj => by rw [Addr.add_lit, Nat.zero_add, cell_of hv1]; simpa using hj) (by simp [stv, hA1l]; omega) (fun v hv => flat_one (l := [x]) v (by simpa [flat] using hv))
  have X3 : Hid (∀ W, W = W1.setRow g (spl A1 (k * 5) (stv x)).toArray → Kp (fun j => j = g) w W ∧ Row W (.slice (some ⟨g, 0, none⟩) (n + 1) c) (insS l k x)) := by
    rintro W rfl
    refine ⟨(show Kp (fun j => j = g) w W1 by rw [hW1]; exact ⟨rfl, rfl, rfl, (setRow_kp w.drew g _).size, fun j hj hn => (setRow_kp w.drew g _).block j hj hn⟩).trans (setRow_kp W1 g _) fun _ _ q => q, ?_⟩
    have hl2 : (insS l k x).length = n + 1 := by rw [insS_length _ _ _ (by omega), hln]
    have hf2 : k * 5 + (stv x).length ≤ A1.length := by rw [hA1l]; simp [stv]; omega
    have := Row.of_parts (l := insS l k x) (g := g) (c := c) (setRow_heap _ _ _ (spl A1 (k * 5) (stv x)).toArray _ _ hg1) (by rw [List.size_toArray, spl_length hf2, hA1l]) (by omega) hc (by
      rw [hl2, List.toList_toArray]
      refine ins_cells (cur := cur.toList) (by omega) hx ?_ ?_ ?_
      · apply List.ext_getElem?
        intro j
        rw [List.getElem?_take, List.getElem?_take]
        split
        · rw [spl_get hf2, if_pos (by assumption), hA1, spl_get hf1, if_pos (by omega)]
        · rfl
      · apply List.ext_getElem?
        intro j
        rw [List.getElem?_take, List.getElem?_drop]
        split
        · rw [spl_get hf2, if_neg (by omega), if_pos (by simp [stv]; omega), Nat.add_sub_cancel_left]
        · rw [List.getElem?_eq_none (by simp [stv]; omega)]
      · rw [← flat_drop, ← hM]
        apply List.ext_getElem?
        intro j
        rw [List.getElem?_take, List.getElem?_drop]
        split
        · rw [spl_get hf2, if_neg (by omega), if_neg (by simp [stv]; omega), hA1, spl_get hf1, if_neg (by omega), if_pos (by omega), Nat.add_sub_cancel_left]
        · rw [List.getElem?_eq_none (by omega)])
    rwa [hl2] at this
  have hb1 : (0 : Int) ≤ (k : Int) := by omega
  have hb2 : ¬ (c = k + 1) := by omega
  have hb3 : (k : Int) ≤ (n : Int) + 1 := by omega
  have hb4 : ¬ (c = k) := by omega
  have hb5 : (k : Int) ≤ (n : Int) := by omega
  have hz2 : ((k : Int) == (n : Int)) = false := by simp; omega
  have hz3 : ¬ ((c : Int) < (n : Int) + 1) := by omega
  have hw1 : IntKind.i64.wrap ((k : Int) + 1) = (k : Int) + 1 := by rw [IntKind.wrap_i64]; omega
  have hw2 : (0 : Int) ≤ (k : Int) + 1 := by omega
  have hw3 : ((k : Int) + 1).toNat = k + 1 := by omega
  have hw4 : (k : Int) + 1 ≤ (n : Int) + 1 := by omega
  clear hW1 hg1 hv1 hg hv hMs hM1 hf1 hA1 hM
  go_enter Tryz.func93, Tryz.ntmps93
  go_wp2_with (simp only [hov])
  go_region_law (refine step_copy_run5 rfl (.tmp 73) (.tmp 76) rfl _ _ (by simp [Act.eval, Act.put]) (by simp [Act.eval, Act.put]) (hcp1 _ _ _) ?_)
  go_wp2_with (at_builtin; refine wpList_copy_run5 _ rfl _ _ rfl _ _ rfl rfl (hcp2 _ _) ?_)
  go_ret
  exact ⟨rfl, X3.out _ rfl⟩
end Go.Proofs.YtjgibngnjlciaaaGreat

namespace Go.Proofs.YtjgibngnjlciaaaGreat
open Go.RowKit Go.Maps

theorem append_st {ops : Array Oper} {rest : List Oper} {o : Oper} {a : Act} {Q : Exit → Act → World → Prop} {w : World} (hgd : o.guard = none) (s x : Operand) (ho : o.op = .call { callee := .builtin .append, args := #[s, x], argTypes := #[93, 93] }) (v : Value) (T : List Stp) (n : Nat) (hn : T.length = n) (hs : a.eval s = v) (hown : Row w v T)
    (g off c m : Nat) (N : List Stp) (hx : a.eval x = .slice (some ⟨g, off, none⟩) m c) (hl : N.length = m) (hm : RowV w g off (flat N)) (hb : n + m ≤ 65536)
    (h : ∀ v' w', Row w' v' (T ++ N) → w.grownBy w' v.ownBlock → (v'.ownBlock = v.ownBlock ∨ v'.ownBlock = some w.heap.size) → wpList Tryz.prog ops Q rest (a.put o.dst v') w') :
    wpList Tryz.prog ops Q (o :: rest) a w := by
  obtain ⟨i0, hi, hz0, hz1, hz2⟩ := info_parts info46
  refine wpList_append_own_at _ hgd s x 93 ho 0 96 i0 _ 5 40 Tryz.underlying93 hi hz0 hz1 hz2 rfl (by decide) v n (flat T) hs (by rw [← hn]; exact hown) ⟨g, off, none⟩ m c (flat N) hx (by rw [pflat_length, hl]) (fun j u hj => ?_) flat_one (by unfold maxLen; omega) (by omega) (Nat.zero_le _) (fun v' w' h1 h2 _ h4 => h v' w' ?_ h2 h4)
  · rw [Addr.add_lit]
    exact hm j u hj
  · unfold Row
    rw [flat_append, List.length_append, hn, hl]
    exact h1
theorem rowV_one {w : World} {vb : Nat} {x : Stp} (hv : w.heap[vb]? = some (.cells (stv x).toArray 96 (0, 0))) : RowV w vb 0 (flat [x]) := fun k u hu => by
  rw [Nat.zero_add, cell_of hv]
  simpa [flat] using hu
/-- what a call leaves of a row -/
structure Ins (w w' : World) (v v' : Value) (l : List Stp) : Prop where
  r : Row w' v' l
  k : Kp (fun j => v.ownBlock = some j) w w'
  o : v'.ownBlock = v.ownBlock ∨ ∃ j, v'.ownBlock = some j ∧ w.heap.size ≤ j
set_option maxHeartbeats 1000000 in
theorem ins_end (w : World) (p : Option Addr) (n c vb vc : Nat) (l : List Stp) (x : Stp) (hr : Row w (.slice p n c) l) (hln : l.length = n) (hn : n ≤ 60000) (hv : w.heap[vb]? = some (.cells (stv x).toArray 96 (0, 0))) :
    Calls Tryz.prog 93 #[.slice p n c, .int .i64 n, .slice (some ⟨vb, 0, none⟩) 1 vc] w fun e w' => ∃ v', e = .returned v' ∧ Ins w w' (.slice p n c) v' (insS l n x) := by
  have H1 : Hid (Row w (.slice p n c) l) := hr
  have H2 : Hid (RowV w vb 0 (flat [x])) := rowV_one hv
  have H3 : Hid (l.length = n) := hln
  have hz3 : (0 : Int) ≤ (n : Int) := by omega
  have e1 : Hid (insS l n x = l ++ [x]) := by show insS l n x = l ++ [x]; unfold insS; rw [List.take_of_length_le (by omega), List.drop_of_length_le (by omega)]
  clear hr hv hln
  go_enter Tryz.func93, Tryz.ntmps93
  go_wp2_with (at_builtin; refine append_st (w := w) rfl _ _ rfl (.slice p n c) l n H3.out rfl H1.out vb 0 vc 1 [x] rfl rfl H2.out (by omega) ?_; intro v' w' h1 h2 h3)
  all_goals (go_ret; refine ⟨v', rfl, by rw [e1.out]; exact h1, Kp.of_grown h2 fun k q => by cases p <;> exact q, ?_⟩; rcases h3 with h3 | h3)
  all_goals first | exact .inr ⟨_, h3, Nat.le_refl _⟩ | (exact .inl (by cases p <;> exact h3))
set_option maxHeartbeats 4000000 in
set_option maxRecDepth 100000 in
theorem ins_grow (w : World) (g c n k vb vc : Nat) (l : List Stp) (x : Stp) (hr : Row w (.slice (some ⟨g, 0, none⟩) n c) l) (hln : l.length = n) (hk : k < n) (hn : n ≤ 60000) (hroom : c < n + 1) (hv : w.heap[vb]? = some (.cells (stv x).toArray 96 (0, 0))) :
    Calls Tryz.prog 93 #[.slice (some ⟨g, 0, none⟩) n c, .int .i64 k, .slice (some ⟨vb, 0, none⟩) 1 vc] w fun e w' => ∃ v', e = .returned v' ∧ Ins w w' (.slice (some ⟨g, 0, none⟩) n c) v' (insS l k x) := by
  obtain ⟨i0, hi0, hz0, hz1, hz2⟩ := info_parts info46
  have hnc := hr.cap.1
  have hgw : g < w.heap.size := hr.lt rfl
  have hvw : vb < w.heap.size := (Array.getElem?_eq_some_iff.1 hv).1
  have hcell : ∀ (W : World), (∀ a, a < w.heap.size → W.heap[a]? = w.heap[a]?) → ∀ (m : List Stp) (o : Nat), (∀ j : Nat, (flat m)[j]? = none ∨ (flat m)[j]? = (flat l)[o + j]?) → ∀ j v, (flat m)[j]? = some v → W.cell? ((⟨g, o, none⟩ : Addr).add j) = some v := fun W hW m o hm j v hj => by
    rw [Addr.add_lit, cell_eq (w1 := W) (w := w) (hW g hgw)]
    have := World.ownsRow.cells hr (g := g) rfl (o + j) v (by
      rcases hm j with q | q
      · rw [q] at hj; cases hj
      · rw [← q]; exact hj)
    rwa [Addr.add_lit, Nat.zero_add] at this
  have hold : (Builtin.firstCells i0.size k (.slice (some ⟨g, 0, none⟩) k c)).run Tryz.prog w.drew = .ok (flat (l.take k)).toArray w.drew := by
    rw [hz1]
    refine run_firstCells_some w.drew 5 k ⟨g, 0, none⟩ k c (flat (l.take k)) (by rw [pflat_length, List.length_take]; omega) (hcell w.drew (fun _ _ => rfl) _ 0 fun j => ?_)
    rw [flat_take, List.getElem?_take, Nat.zero_add]
    split
    · exact .inr rfl
    · exact .inl rfl
  obtain ⟨G, hG⟩ : ∃ G, G = grownCap w (n + 1) c 96 := ⟨_, rfl⟩
  have hGn : n + 1 ≤ G := by rw [hG]; exact grownCap_ge w _ _ _
  have hG63 : G ≤ maxLen := by rw [hG]; exact grownCap_le_maxLen w (n + 1) c 96 (by unfold maxLen; omega)
  obtain ⟨A0, hA0⟩ : ∃ A0 : List Value, A0 = ((flat (l.take k)).toArray ++ Builtin.zeroCells (Value.agg #[.int .i64 0, .int .i64 0, .int .i64 0, .int .i64 0, .int .i64 0]).cells (n + 1 - k) ++ Builtin.zeroCells (Value.agg #[.int .i64 0, .int .i64 0, .int .i64 0, .int .i64 0, .int .i64 0]).cells (G - (n + 1))).toList := ⟨_, rfl⟩
  have hA0l : A0.length = G * 5 := by
    rw [hA0]
    simp [Builtin.zeroCells, Value.cells, pflat_length]
    omega
  have hA0t : A0.take (k * 5) = flat (l.take k) := by
    rw [hA0]
    simp only [Array.toList_append, List.append_assoc]
    rw [List.take_append_of_le_length (by rw [pflat_length, List.length_take]; omega), List.take_of_length_le (by rw [pflat_length, List.length_take]; omega)]
  obtain ⟨W1, hrz, hg1, hk1⟩ : ∃ W1, (∀ ty, (Builtin.append_ #[93, 3] ty #[.slice (some ⟨g, 0, none⟩) k c, .int .i64 ((n : Int) + 1 - (k : Int))]).run Tryz.prog w = .ok (.slice (some ⟨w.heap.size, 0, none⟩) (n + 1) G) W1) ∧ W1.heap[w.heap.size]? = some (.cells A0.toArray 96 (0, 0)) ∧ Below w.heap.size w W1 := by
    refine ⟨w.drew.alloc (.cells A0.toArray 96), fun ty => ?_, new0 (w := w.drew), ((Below.refl _ w).drew).alloc (Nat.le_refl _) _⟩
    have h := Lib.run_append_grow_zeros w 93 3 ty 96 i0 _ .i64 .i64 Tryz.underlying93 Tryz.underlying3 hi0 hz0 (some ⟨g, 0, none⟩) k c (flat (l.take k)) hold (n + 1 - k) (by omega) (by omega) (by omega) (by omega) (by rw [hz2]; omega) (by rw [hz2, show k + (n + 1 - k) = n + 1 by omega]; exact growslice_fits hroom (by omega))
    rw [show k + (n + 1 - k) = n + 1 by omega, ← hG] at h
    rw [show (n : Int) + 1 - (k : Int) = ((n + 1 - k : Nat) : Int) by omega, h, hA0]
  obtain ⟨N, hN⟩ : ∃ N, N = w.heap.size := ⟨_, rfl⟩
  have hNg : N ≠ g := by omega
  rw [← hN] at hrz hg1
  have hv1 : W1.heap[vb]? = some (.cells (stv x).toArray 96 (0, 0)) := (hk1.block vb hvw).trans hv
  have hf1 : k * 5 + (stv x).length ≤ A0.length := by rw [hA0l]; simp [stv]; omega
  obtain ⟨A1, hA1⟩ : ∃ A1, A1 = spl A0 (k * 5) (stv x) := ⟨_, rfl⟩
  have hA1l : A1.length = G * 5 := by rw [hA1, spl_length hf1, hA0l]
  obtain ⟨W2, hcpA, hg2, hk2⟩ : ∃ W2, (∀ ty dc, (Builtin.copy_ #[93, 93] ty #[.slice (some ⟨N, k * 5, none⟩) (n + 1 - k) dc, .slice (some ⟨vb, 0, none⟩) 1 vc]).run Tryz.prog W1 = .ok (goInt (Nat.min 1 (n + 1 - k))) W2) ∧ W2.heap[N]? = some (.cells A1.toArray 96 (0, 0)) ∧ Below w.heap.size w W2 := by
    refine ⟨W1.setRow N A1.toArray, fun ty dc => ?_, setRow_heap _ _ _ _ _ _ hg1, hk1.trans ⟨rfl, rfl, rfl, (setRow_kp W1 N _).size, fun j hj => setRow_other _ _ _ _ (by omega)⟩⟩
    rw [hA1]
    exact run_copy5 W1 ty N (k * 5) (n + 1 - k) dc ⟨vb, 0, none⟩ 1 vc A0.toArray 96 (stv x) hg1 (by simp only [Nat.min_def, stv, List.length_cons, List.length_nil]; split <;> omega) (fun j v hj => by rw [Addr.add_lit, Nat.zero_add, cell_of hv1]; simpa using hj) (by rw [List.size_toArray]; exact hf1) (fun v hv => flat_one (l := [x]) v (by simpa [flat] using hv))
  have hf2 : (k + 1) * 5 + (flat (l.drop k)).length ≤ A1.length := by rw [hA1l, pflat_length, List.length_drop]; omega
  obtain ⟨A2, hA2⟩ : ∃ A2, A2 = spl A1 ((k + 1) * 5) (flat (l.drop k)) := ⟨_, rfl⟩
  have hA2l : A2.length = G * 5 := by rw [hA2, spl_length hf2, hA1l]
  obtain ⟨W3, hcpB, hg3, hk3⟩ : ∃ W3, (∀ ty dc sc, (Builtin.copy_ #[93, 93] ty #[.slice (some ⟨N, (k + 1) * 5, none⟩) (n - k) dc, .slice (some ⟨g, k * 5, none⟩) (n - k) sc]).run Tryz.prog W2.drew = .ok (goInt (Nat.min (n - k) (n - k))) W3) ∧ W3.heap[N]? = some (.cells A2.toArray 96 (0, 0)) ∧ Below w.heap.size w W3 := by
    refine ⟨W2.drew.setRow N A2.toArray, fun ty dc sc => ?_, setRow_heap _ _ _ _ _ _ hg2, (hk2.drew).trans ⟨rfl, rfl, rfl, (setRow_kp W2.drew N _).size, fun j hj => setRow_other _ _ _ _ (by omega)⟩⟩
    rw [hA2]
    exact run_copy5 W2.drew ty N ((k + 1) * 5) (n - k) dc ⟨g, k * 5, none⟩ (n - k) sc A1.toArray 96 (flat (l.drop k)) hg2 (by rw [pflat_length, List.length_drop, hln]; simp only [Nat.min_def]; split <;> omega) (hcell _ (fun a ha => hk2.block a ha) _ _ fun j => .inr (by rw [flat_drop, List.getElem?_drop])) (by rw [List.size_toArray]; exact hf2) flat_one
  have X : Hid (Ins w W3 (.slice (some ⟨g, 0, none⟩) n c) (.slice (some ⟨N, 0, none⟩) (n + 1) G) (insS l k x)) := by
    have hl2 : (insS l k x).length = n + 1 := by rw [insS_length _ _ _ (by omega), hln]
    have hfl : (flat l).length = n * 5 := by rw [pflat_length, hln]
    refine ⟨?_, Kp.of_below hk3, .inr ⟨N, rfl, by omega⟩⟩
    have := Row.of_parts (l := insS l k x) (g := N) (c := G) hg3 (by rw [List.size_toArray, hA2l]) (by omega) hG63 (by
      rw [hl2, List.toList_toArray]
      refine ins_cells (l := l) (cur := flat l) (by omega) (List.take_of_length_le (by omega)) ?_ ?_ ?_
      · rw [← flat_take, ← hA0t]
        apply List.ext_getElem?
        intro j
        rw [List.getElem?_take, List.getElem?_take]
        split
        · rw [hA2, spl_get hf2, if_pos (by omega), hA1, spl_get hf1, if_pos (by assumption)]
        · rfl
      · apply List.ext_getElem?
        intro j
        rw [List.getElem?_take, List.getElem?_drop]
        split
        · rw [hA2, spl_get hf2, if_pos (by omega), hA1, spl_get hf1, if_neg (by omega), if_pos (by simp [stv]; omega), Nat.add_sub_cancel_left]
        · rw [List.getElem?_eq_none (by simp [stv]; omega)]
      · rw [← flat_drop]
        apply List.ext_getElem?
        intro j
        rw [List.getElem?_take, List.getElem?_drop]
        have hdl : (flat (l.drop k)).length = (n - k) * 5 := by rw [pflat_length, List.length_drop, hln]
        split
        · rw [hA2, spl_get hf2, if_neg (by omega), if_pos (by omega), Nat.add_sub_cancel_left]
        · rw [List.getElem?_eq_none (by omega)])
    rwa [hl2] at this
  have hb2 : ¬ (c = k) := by omega
  have hb3 : ¬ (G = k) := by omega
  have hb4 : ¬ (G = k + 1) := by omega
  have hb1 : (0 : Int) ≤ (k : Int) := by omega
  have hb5 : (k : Int) ≤ (n : Int) := by omega
  have hb6 : (k : Int) ≤ (n : Int) + 1 := by omega
  have hb7 : (k : Int) ≤ (c : Int) := by omega
  have hz2 : ((k : Int) == (n : Int)) = false := by simp; omega
  have hz3 : (c : Int) < (n : Int) + 1 := by omega
  have hw1 : IntKind.i64.wrap ((k : Int) + 1) = (k : Int) + 1 := by rw [IntKind.wrap_i64]; omega
  have hw2 : (0 : Int) ≤ (k : Int) + 1 := by omega
  have hw3 : ((k : Int) + 1).toNat = k + 1 := by omega
  have hw4 : (k : Int) + 1 ≤ (n : Int) + 1 := by omega
  have hw5 : IntKind.i64.wrap ((n : Int) + 1 - (k : Int)) = (n : Int) + 1 - (k : Int) := by rw [IntKind.wrap_i64]; omega
  clear hcell hold hG hA0 hA0l hA0t hg1 hk1 hv1 hf1 hA1 hA1l hg2 hk2 hf2 hA2 hA2l hg3 hk3 hN hNg hr hv hi0 hz0 hz1 hgw hvw
  go_enter Tryz.func93, Tryz.ntmps93
  go_wp2_with (first
    | (at_builtin; refine Lib.wpList_append_run _ rfl _ _ _ _ rfl _ _ rfl rfl _ _ (hrz _) ?_)
    | (at_builtin; refine wpList_copy_run5 _ rfl _ _ rfl _ _ rfl rfl (hcpA _ _) ?_))
  go_region_law (refine step_copy_run5 rfl (.tmp 50) (.tmp 53) rfl _ _ (by simp [Act.eval, Act.put]) (by simp [Act.eval, Act.put]) (hcpB _ _ _) ?_)
  go_wp2_with fail
  go_ret
  exact ⟨_, rfl, X.out⟩
theorem ins_any (w : World) (v : Value) (k vb vc : Nat) (l : List Stp) (x : Stp) (hr : Row w v l) (hk : k ≤ l.length) (hn : l.length ≤ 60000) (hv : w.heap[vb]? = some (.cells (stv x).toArray 96 (0, 0))) (hvb : v.ownBlock ≠ some vb) :
    Calls Tryz.prog 93 #[v, .int .i64 k, .slice (some ⟨vb, 0, none⟩) 1 vc] w fun e w' => ∃ v', e = .returned v' ∧ Ins w w' v v' (insS l k x) := by
  by_cases he : k = l.length
  · subst he
    obtain ⟨p, c, rfl⟩ := hr.shape
    exact ins_end w p l.length c vb vc l x hr rfl hn hv
  · obtain ⟨g, c, cs, rfl, hg, hs, h1, h2, h3⟩ := hr.parts (by omega)
    by_cases hc : l.length + 1 ≤ c
    · refine (ins_shift w g c l.length k vb vc cs x l hg hs hc (by unfold maxLen at h2; omega) (by omega) (fun e => hvb (by rw [e]; rfl)) rfl h3 hv).mono ?_
      rintro e w' ⟨rfl, h4, h5⟩
      exact ⟨_, rfl, h5, h4.mono fun j _ q => by rw [q]; rfl, .inl rfl⟩
    · exact ins_grow w g c l.length k vb vc l x hr rfl (by omega) hn (by omega) hv
end Go.Proofs.YtjgibngnjlciaaaGreat
