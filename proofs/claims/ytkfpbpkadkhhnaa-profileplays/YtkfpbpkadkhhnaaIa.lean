/-
  Copying and clearing steps; slices.Insert where there is room.
-/
import Derived.Test.YtkfpbpkadkhhnaaRw
namespace Go.Proofs.Ytkfpbpkadkhhnaa
open Go.RowKit

theorem info46 : (Try.prog.info? 46).map (fun i => (i.zero, i.size, i.bytes)) = some (some (.agg #[.int .i64 0, .int .i64 0, .int .i64 0, .int .i64 0, .int .i64 0]), 5, 40) := by kernel_rfl
/-- the row behind a copy -/
def spl (L : List Value) (o : Nat) (cs : List Value) : List Value := L.take o ++ cs ++ L.drop (o + cs.length)
theorem spl_length {L cs : List Value} {o : Nat} (h : o + cs.length ≤ L.length) : (spl L o cs).length = L.length := by unfold spl; simp; omega
theorem spl_get {L cs : List Value} {o : Nat} (h : o + cs.length ≤ L.length) (j : Nat) : (spl L o cs)[j]? = if j < o then L[j]? else if j < o + cs.length then cs[j - o]? else L[j]? := by
  unfold spl
  rw [List.getElem?_append, List.getElem?_append]
  simp only [List.length_append, List.length_take, Nat.min_eq_left (show o ≤ L.length by omega)]
  by_cases h1 : j < o
  · rw [if_pos (by omega), if_pos h1, if_pos h1, List.getElem?_take, if_pos h1]
  · rw [if_neg h1]
    by_cases h2 : j < o + cs.length
    · rw [if_pos h2, if_neg h1, if_pos h2]
    · rw [if_neg h2, if_neg h2, List.getElem?_drop, show o + cs.length + (j - (o + cs.length)) = j by omega, if_neg h1]
theorem run_copy5 (w : World) (ty : TypeId) (g o dLen dCap : Nat) (a : Addr) (sLen sCap : Nat) (cur : Array Value) (t : TypeId) (cs : List Value)
    (hg : w.heap[g]? = some (.cells cur t (0, 0))) (hn : cs.length = Nat.min sLen dLen * 5)
    (hsrc : ∀ j v, cs[j]? = some v → w.cell? (a.add j) = some v) (hfit : o + cs.length ≤ cur.size) (h1 : ∀ v ∈ cs, v.oneCell' = true) :
    (Builtin.copy_ #[39, 39] ty #[.slice (some ⟨g, o, none⟩) dLen dCap, .slice (some a) sLen sCap]).run Try.prog w =
      .ok (goInt (Nat.min sLen dLen)) (w.setRow g (spl cur.toList o cs).toArray) := by
  have hl := run_loadCells_list (P := Try.prog) w a cs hsrc
  have hst := run_storeCells_at Try.prog g o t cs 0 cur w hg (by simpa using hfit) h1
  rw [hn] at hl
  simp [Builtin.copy_, run_underlying Try.underlying39, Builtin.lenOf, Builtin.firstCells, Try.sizeOf46, hl, hst, spl]
theorem wpList_copy_run5 (w : World) {ops : Array Oper} {rest : List Oper} {o : Oper} {a : Act} {Q : Exit → Act → World → Prop} (hgd : o.guard = none) (d s : Operand)
    (ho : o.op = .call { callee := .builtin .copy, args := #[d, s], argTypes := #[39, 39] }) (v u : Value) (hd : a.eval d = v) (hs : a.eval s = u) {v' : Value} {w' : World}
    (hr : (Builtin.copy_ #[39, 39] o.type #[v, u]).run Try.prog w = .ok v' w') (h : wpList Try.prog ops Q rest (a.put o.dst v') w') : wpList Try.prog ops Q (o :: rest) a w := by
  refine wpList_plain hgd fun K hK => ?_
  unfold Oper.wp
  simp [execOp, ho, resolve, invoke, builtin, hd, hs, hr, Result.andThen]
  exact hK _ _ h
theorem step_copy_run5 {ops : Array Oper} {o : Oper} {a : Act} {w : World} {K : Act → World → Prop} {Q : Exit → Act → World → Prop} {E : Prop} (hgd : o.guard = none) (d s : Operand)
    (ho : o.op = .call { callee := .builtin .copy, args := #[d, s], argTypes := #[39, 39] }) (v u : Value) (hd : a.eval d = v) (hs : a.eval s = u) {v' : Value} {w' : World}
    (hr : (Builtin.copy_ #[39, 39] o.type #[v, u]).run Try.prog w = .ok v' w') (h : K (a.put o.dst v') w') :
    if Region.wanted o (yielded ops a.tmps) = true then Oper.wp Try.prog o a w K Q else E := by
  have hw : Region.wanted o (yielded ops a.tmps) = true := by simp [Region.wanted, hgd]
  rw [if_pos hw]
  unfold Oper.wp
  simp [execOp, ho, resolve, invoke, builtin, hd, hs, hr, Result.andThen]
  exact h
theorem over_false (w : World) (g vb : Nat) (cur vs : Array Value) (o la ca lb cb : Nat) (hne : vb ≠ g) (hg : w.heap[g]? = some (.cells cur 46 (0, 0))) (hv : w.heap[vb]? = some (.cells vs 46 (0, 0))) (hc : cur.size ≠ 0) :
    (callFunc 43 #[.slice (some ⟨vb, 0, none⟩) la ca, .slice (some ⟨g, o, none⟩) lb cb]).run Try.prog w = .ok (.value (.bool false)) w := by
  rw [run_callFunc_extern Try.func43 (by kernel_rfl) (by kernel_rfl) (by kernel_rfl) (e := Extern.SlicesOverlaps.overlaps #[39, 39] #[4]) (by kernel_rfl),
    Lib.run_overlaps_apart w 39 4 46 Try.underlying39 5 Try.sizeOf46 ⟨vb, 0, none⟩ ⟨g, o, none⟩ la ca lb cb hne 46 46 vs.size cur.size (by simp [World.shape?, hv]) (by simp [World.shape?, hg]) hc (fz hv _) (fz hv _)]
  rfl
theorem setRow_kp (w : World) (g : Nat) (cs : Array Value) : Kp (fun k => k = g) w (w.setRow g cs) := ⟨rfl, rfl, rfl, by simp [World.setRow], fun k _ hn => setRow_other w g k cs hn⟩

/-- what stands in a row behind a step that is put in -/
theorem ins_cells {l : List St} {cur A : List Value} {k n : Nat} {x : St} (hk : k ≤ n) (h : cur.take (n * 5) = flat l) (hA : A.take (k * 5) = cur.take (k * 5)) (hx : (A.drop (k * 5)).take 5 = stv x) (hr : (A.drop ((k + 1) * 5)).take ((n - k) * 5) = (flat l).drop (k * 5)) : A.take ((n + 1) * 5) = flat (insS l k x) := by
  unfold insS
  rw [flat_append, flat_take, ← h, List.take_take, Nat.min_eq_left (by omega), ← hA]
  have e1 : flat (x :: l.drop k) = stv x ++ flat (l.drop k) := rfl
  rw [e1, flat_drop, ← hr, ← hx]
  have e2 : (n + 1) * 5 = k * 5 + (5 + (n - k) * 5) := by omega
  rw [e2, List.take_add, List.take_add, List.drop_drop]
  congr 3
  rw [show (k + 1) * 5 = k * 5 + 5 by omega]
set_option maxHeartbeats 4000000 in
set_option maxRecDepth 100000 in
theorem ins_shift (w : World) (g c n k vb vc : Nat) (cur : Array Value) (x : St) (l : List St) (hg : w.heap[g]? = some (.cells cur 46 (0, 0))) (hs : cur.size = c * 5) (hroom : n + 1 ≤ c) (hc : c ≤ 9223372036854775807) (hk : k < n) (hvb : vb ≠ g)
    (hln : l.length = n) (hx : cur.toList.take (n * 5) = flat l) (hv : w.heap[vb]? = some (.cells (stv x).toArray 46 (0, 0))) :
    Calls Try.prog 40 #[.slice (some ⟨g, 0, none⟩) n c, .int .i64 k, .slice (some ⟨vb, 0, none⟩) 1 vc] w fun e w' => e = .returned (.slice (some ⟨g, 0, none⟩) (n + 1) c) ∧
      Kp (fun j => j = g) w w' ∧ Row w' (.slice (some ⟨g, 0, none⟩) (n + 1) c) (insS l k x) := by
  have hov : ∀ o lb cb, (callFunc 43 #[.slice (some ⟨vb, 0, none⟩) 1 vc, .slice (some ⟨g, o, none⟩) lb cb]).run Try.prog w = .ok (.value (.bool false)) w := fun o lb cb => over_false w g vb cur _ o 1 vc lb cb hvb hg hv (by omega)
  obtain ⟨M, hM⟩ : ∃ M, M = flat (l.drop k) := ⟨_, rfl⟩
  have hMl : M.length = (n - k) * 5 := by rw [hM, flat_length, List.length_drop, hln]
  have hl : cur.toList.length = c * 5 := by simpa using hs
  have hMs : ∀ j v, M[j]? = some v → w.drew.cell? ((⟨g, k * 5, none⟩ : Addr).add j) = some v := fun j v hj => by
    rw [Addr.add_lit]
    show w.cell? _ = _
    have hj' := (List.getElem?_eq_some_iff.1 hj).1
    rw [cell_of hg]
    rw [hM, flat_drop, ← hx, List.getElem?_drop, List.getElem?_take, if_pos (by omega), Array.getElem?_toList] at hj
    exact hj
  have hM1 : ∀ v ∈ M, v.oneCell' = true := by rw [hM]; exact flat_one
  have hf1 : (k + 1) * 5 + M.length ≤ cur.toList.length := by rw [hMl, hl]; omega
  obtain ⟨A1, hA1⟩ : ∃ A1, A1 = spl cur.toList ((k + 1) * 5) M := ⟨_, rfl⟩
  have hA1l : A1.length = c * 5 := by rw [hA1, spl_length hf1, hl]
  have hcp1 : ∀ ty dc sc, (Builtin.copy_ #[39, 39] ty #[.slice (some ⟨g, (k + 1) * 5, none⟩) (n - k) dc, .slice (some ⟨g, k * 5, none⟩) (n + 1 - k) sc]).run Try.prog w.drew = .ok (goInt (Nat.min (n + 1 - k) (n - k))) (w.drew.setRow g A1.toArray) := fun ty dc sc => by
    rw [hA1]
    exact run_copy5 w.drew ty g ((k + 1) * 5) (n - k) dc ⟨g, k * 5, none⟩ (n + 1 - k) sc cur 46 M hg (by rw [hMl]; simp only [Nat.min_def]; split <;> omega) hMs (by rw [← Array.length_toList]; exact hf1) hM1
  obtain ⟨W1, hW1⟩ : ∃ W1, W1 = w.drew.setRow g A1.toArray := ⟨_, rfl⟩
  rw [← hW1] at hcp1
  have hg1 : W1.heap[g]? = some (.cells A1.toArray 46 (0, 0)) := by rw [hW1]; exact setRow_heap _ _ _ _ _ _ hg
  have hv1 : W1.heap[vb]? = some (.cells (stv x).toArray 46 (0, 0)) := by rw [hW1, setRow_other _ _ _ _ hvb]; exact hv
  have hcp2 : ∀ ty dc, (Builtin.copy_ #[39, 39] ty #[.slice (some ⟨g, k * 5, none⟩) (n + 1 - k) dc, .slice (some ⟨vb, 0, none⟩) 1 vc]).run Try.prog W1 = .ok (goInt (Nat.min 1 (n + 1 - k))) (W1.setRow g (spl A1 (k * 5) (stv x)).toArray) := fun ty dc =>
    run_copy5 W1 ty g (k * 5) (n + 1 - k) dc ⟨vb, 0, none⟩ 1 vc A1.toArray 46 (stv x) hg1 (by simp only [Nat.min_def, stv, List.length_cons, List.length_nil]; split <;> omega) (fun j v hj => by rw [Addr.add_lit, Nat.zero_add, cell_of hv1]; simpa using hj) (by simp [stv, hA1l]; omega) (fun v hv => flat_one (l := [x]) v (by simpa [flat] using hv))
  have X3 : Hid (∀ W, W = W1.setRow g (spl A1 (k * 5) (stv x)).toArray → Kp (fun j => j = g) w W ∧ Row W (.slice (some ⟨g, 0, none⟩) (n + 1) c) (insS l k x)) := by
    rintro W rfl
    refine ⟨(show Kp (fun j => j = g) w W1 by rw [hW1]; exact ⟨rfl, rfl, rfl, (setRow_kp w.drew g _).size, fun j hj hn => (setRow_kp w.drew g _).block j hj hn⟩).trans (setRow_kp W1 g _) fun _ _ q => q, ?_⟩
    have hl2 : (insS l k x).length = n + 1 := by rw [insS_length _ _ _ (by omega), hln]
    have hf2 : k * 5 + (stv x).length ≤ A1.length := by rw [hA1l]; simp [stv]; omega
    have := Row.of_parts (l := insS l k x) (g := g) (c := c) (setRow_heap _ _ _ (spl A1 (k * 5) (stv x)).toArray _ _ hg1) (by rw [List.size_toArray, spl_length hf2, hA1l]) (by omega) hc (by
      rw [hl2, List.toList_toArray]
      refine ins_cells (cur := cur.toList) (by omega) hx ?_ ?_ ?_
      · apply List.ext_getElem?
        intro j
        rw [List.getElem?_take, List.getElem?_take]
        split
        · rw [spl_get hf2, if_pos (by assumption), hA1, spl_get hf1, if_pos (by omega)]
        · rfl
      · apply List.ext_getElem?
        intro j
        rw [List.getElem?_take, List.getElem?_drop]
        split
        · rw [spl_get hf2, if_neg (by omega), if_pos (by simp [stv]; omega), Nat.add_sub_cancel_left]
        · rw [List.getElem?_eq_none (by simp [stv]; omega)]
      · rw [← flat_drop, ← hM]
        apply List.ext_getElem?
        intro j
        rw [List.getElem?_take, List.getElem?_drop]
        split
        · rw [spl_get hf2, if_neg (by omega), if_neg (by simp [stv]; omega), hA1, spl_get hf1, if_neg (by omega), if_pos (by omega), Nat.add_sub_cancel_left]
        · rw [List.getElem?_eq_none (by omega)])
    rwa [hl2] at this
  have hb1 : (0 : Int) ≤ (k : Int) := by omega
  have hb2 : ¬ (c = k + 1) := by omega
  have hb3 : (k : Int) ≤ (n : Int) + 1 := by omega
  have hb4 : ¬ (c = k) := by omega
  have hb5 : (k : Int) ≤ (n : Int) := by omega
  have hz2 : ((k : Int) == (n : Int)) = false := by simp; omega
  have hz3 : ¬ ((c : Int) < (n : Int) + 1) := by omega
  have hw1 : IntKind.i64.wrap ((k : Int) + 1) = (k : Int) + 1 := by rw [IntKind.wrap_i64]; omega
  have hw2 : (0 : Int) ≤ (k : Int) + 1 := by omega
  have hw3 : ((k : Int) + 1).toNat = k + 1 := by omega
  have hw4 : (k : Int) + 1 ≤ (n : Int) + 1 := by omega
  clear hW1 hg1 hv1 hg hv hMs hM1 hf1 hA1 hM
  go_enter Try.func40, Try.ntmps40
  go_wp2_with (simp only [hov])
  go_region_law (refine step_copy_run5 rfl (.tmp 73) (.tmp 76) rfl _ _ (by simp [Act.eval, Act.put]) (by simp [Act.eval, Act.put]) (hcp1 _ _ _) ?_)
  go_wp2_with (at_builtin; refine wpList_copy_run5 _ rfl _ _ rfl _ _ rfl rfl (hcp2 _ _) ?_)
  go_ret
  exact ⟨rfl, X3.out _ rfl⟩
end Go.Proofs.Ytkfpbpkadkhhnaa
