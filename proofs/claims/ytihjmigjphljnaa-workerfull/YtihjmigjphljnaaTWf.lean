/-
  Swap over a clock.
-/
import Derived.Test.YtihjmigjphljnaaTWe
namespace Go.Proofs.Ytihjmigjphljnaa.Tk
open Go.RowKit Go.Maps Go.WideMaps

theorem isKey (s : List UInt8) : WideAt.IsKeyLit (.string s) := trivial
theorem take_set2 {cs : Array Value} {l : List Al} (h : cs.toList.take (l.length * 2) = flat l) (i : Nat) (a : Al) : ((cs.setIfInBounds (i * 2) (.string a.nm)).setIfInBounds (i * 2 + 1) (.int .i64 a.at')).toList.take ((l.set i a).length * 2) = flat (l.set i a) := by
  rw [List.length_set, Array.toList_setIfInBounds, Array.toList_setIfInBounds, List.take_set, List.take_set, h, flat_set]
theorem has_put {M : DataW Nat} (hD : IsMap M) (k s : List UInt8) (d : DataW Nat) (h : Maps.has M (.string s) = true) : Maps.has (M.put (.string k) d) (.string s) = true := by
  by_cases e : s = k
  · subst e
    exact has_put_same hD (isKey _) d
  · rw [has_put_other (str_ne e)]
    exact h
theorem Mem.some {w : World} {cb : Nat} {S : HS} (h : Mem w cb S) (hl : 0 < S.l.length) : ∃ m M, S.mb = Option.some m ∧ MpL w m S.l M := by
  have := h.mp
  cases hm : S.mb with
  | none => rw [hm] at this; simp only at this; rw [this] at hl; simp at hl
  | some m =>
    rw [hm] at this
    obtain ⟨M, hM⟩ := this
    exact ⟨m, M, rfl, hM⟩
/-- the swapped list's map -/
theorem swap_map {l : List Al} (hn : Nod l) {i j : Nat} (hi : i < l.length) (hj : j < l.length) {M : DataW Nat} (hD : IsMap M) (ha : ∀ (s : List UInt8) (z : DataW Nat), M.atKey (.string s) z = ent (plc s l) z) (s : List UInt8) (z : DataW Nat) :
    ((M.put (.string (gt l j).k) (.lit (.int .i64 (i : Nat)))).put (.string (gt l i).k) (.lit (.int .i64 (j : Nat)))).atKey (.string s) z = ent (plc s (lsw l i j)) z := by
  have hn' : Nod (lsw l i j) := nod_perm (lsw_perm hi hj).symm hn
  have hg : ∀ k, k < l.length → (lsw l i j)[k]? = some (sw (gt l) i j k) := fun k hk => by
    rw [← gt_lsw hi hj]
    exact gt_some (by rw [lsw_length]; exact hk)
  by_cases e : s = (gt l i).k
  · subst e
    rw [atKey_put_same (hD.put _ _) (isKey _), plc_of hn' (show (lsw l i j)[j]? = some (gt l i) by rw [hg j hj, sw_r])]
    rfl
  · rw [atKey_put_other (str_ne e)]
    by_cases e' : s = (gt l j).k
    · subst e'
      have hij : i ≠ j := by rintro rfl; exact e rfl
      rw [atKey_put_same hD (isKey _), plc_of hn' (show (lsw l i j)[i]? = some (gt l j) by rw [hg i hi, sw_l _ hij])]
      rfl
    · rw [atKey_put_other (str_ne e'), ha]
      congr 1
      refine (plc_eq hn' (fun k hk => ?_) (fun hk a hm => ?_)).symm
      · obtain ⟨a, h1, h2⟩ := plc_some hk
        have hkl : k < l.length := (List.getElem?_eq_some_iff.1 h1).1
        have ek := gt_of h1
        refine ⟨a, ?_, h2⟩
        rw [hg k hkl, sw_o, ek]
        · rintro rfl; rw [ek] at e; exact e h2.symm
        · rintro rfl; rw [ek] at e'; exact e' h2.symm
      · exact plc_none hk a ((lsw_perm hi hj).mem_iff.1 hm)
section
variable {w w' w1 w2 : World} {cb : Nat} {S S' S1 S2 : HS}
theorem swap_S (h : Mem w cb S) {i j : Nat} (hi : i < S.l.length) (hj : j < S.l.length) :
    Calls Try.prog 96 #[.agg #[.pointer (some ⟨cb, 1, none⟩)], .int .i64 i, .int .i64 j] w fun e w' => e = .returned (.tuple #[]) ∧ Mem w' cb (S.wl (lsw S.l i j)) ∧ Chg cb S (S.wl (lsw S.l i j)) w w' := by
  obtain ⟨g, c, cs, e, hg, hcs, hc1, hc2, hfl⟩ := h.rw.parts (by omega)
  obtain ⟨m, M, em, hM⟩ := h.some (by omega)
  have hR := h.rw
  rw [e] at hR
  have hp : w.heap[cb]? = some (.cells #[S.nv, .slice (some ⟨g, 0, none⟩) S.l.length c, .map (some m)] 63 (0, 0)) := by rw [h.hp, e, em]
  have ncg : cb ≠ g := fun q => by subst q; rw [hg] at hp; cases hp
  have nmg : m ≠ g := hM.o.ne hg
  have nmc : m ≠ cb := hM.o.ne hp
  have hlc := (Array.getElem?_eq_some_iff.1 hp).1
  have hlg := (Array.getElem?_eq_some_iff.1 hg).1
  have hlm := hM.o.lt'
  have hsm := h.sm
  have hmx : (1024 : Nat) < maxLen := by decide
  have oki := h.ok _ (List.mem_of_getElem? (gt_some hi))
  have okj := h.ok _ (List.mem_of_getElem? (gt_some hj))
  have hD := World.ownsMap.isMap hM.o
  have s1 : Maps.size (M.put (.string (gt S.l j).k) (.lit (.int .i64 (i : Nat)))) = S.l.length := by
    rw [size_put (World.ownsMap.tidy hM.o law9), hM.has, plc_of h.no (gt_some hj), if_pos (by rfl), hM.n]
  refine (swap_raw w cb g S.l.length c m i j (gt S.l i) (gt S.l j) (by rw [h.c0, e]) hi hj (hR.c0 (gt_some hi)) (hR.c1 (gt_some hi)) (hR.c0 (gt_some hj)) (hR.c1 (gt_some hj))
    (fun W => W.heap[cb]? = w.heap[cb]? ∧ W.heap[g]? = some (.cells ((cs.setIfInBounds (i * 2) (.string (gt S.l j).nm)).setIfInBounds (i * 2 + 1) (.int .i64 (gt S.l j).at')) 79 (0, 0)) ∧ Mp W m (M.put (.string (gt S.l j).k) (.lit (.int .i64 (i : Nat)))))
    (fun W => W.heap[cb]? = w.heap[cb]? ∧ W.heap[g]? = some (.cells ((((cs.setIfInBounds (i * 2) (.string (gt S.l j).nm)).setIfInBounds (i * 2 + 1) (.int .i64 (gt S.l j).at')).setIfInBounds (j * 2) (.string (gt S.l i).nm)).setIfInBounds (j * 2 + 1) (.int .i64 (gt S.l i).at')) 79 (0, 0)) ∧ Mp W m ((M.put (.string (gt S.l j).k) (.lit (.int .i64 (i : Nat)))).put (.string (gt S.l i).k) (.lit (.int .i64 (j : Nat)))))
    hlm ?_ ?_).mono ?_
  · intro W b
    have bc := b.block cb hlc
    refine (put_raw W cb g S.l.length c m i (gt S.l j) cs (bc.trans hp) ((b.block g hlg).trans hg) hcs hi hc1 M (hM.o.keep (b.block m hlm)) (by rw [hM.n]; omega) okj).mono ?_
    rintro e w' ⟨rfl, q1, q2, q3⟩
    refine ⟨rfl, ⟨?_, q1, q2⟩, q3⟩
    have bs := b.size
    exact (q3.block cb (by omega) (fun q => q.elim ncg fun q => nmc q.symm)).trans bc
  · rintro W ⟨a1, a2, a3⟩
    refine (put_raw W cb g S.l.length c m j (gt S.l i) _ (a1.trans hp) a2 (by rw [Array.size_setIfInBounds, Array.size_setIfInBounds]; exact hcs) hj hc1 _ a3 (by rw [s1]; omega) oki).mono ?_
    rintro e w' ⟨rfl, q1, q2, q3⟩
    refine ⟨rfl, ⟨?_, q1, q2⟩, q3⟩
    exact (q3.block cb (Array.getElem?_eq_some_iff.1 (a1.trans hp)).1 (fun q => q.elim ncg fun q => nmc q.symm)).trans a1
  · rintro e' w' ⟨rfl, ⟨a1, a2, a3⟩, k⟩
    refine ⟨rfl, ⟨a1.trans h.hp, ?_, ?_, nod_perm (lsw_perm hi hj).symm h.no, fun a ha => h.ok a ((lsw_perm hi hj).mem_iff.1 ha), by show (lsw S.l i j).length ≤ 1024; rw [lsw_length]; exact h.sm⟩, ⟨?_, fun _ h => .inl h, rfl⟩⟩
    · show Row w' S.lv (lsw S.l i j)
      rw [e, ← lsw_length S.l i j]
      refine Row.of_parts a2 (by simpa using hcs) (by rw [lsw_length]; exact hc1) hc2 ?_
      exact take_set2 (take_set2 hfl i (gt S.l j)) j (gt S.l i)
    · show match S.mb with | none => lsw S.l i j = [] | some m => ∃ M, MpL w' m (lsw S.l i j) M
      rw [em]
      refine ⟨_, a3, ?_, swap_map h.no hi hj hD hM.a⟩
      rw [size_put (Tidy.put (World.ownsMap.tidy hM.o law9) (isKey _) _), has_put hD _ _ _ (by rw [hM.has, plc_of h.no (gt_some hi)]; rfl), if_pos rfl, s1, lsw_length]
    · exact k.mono fun q _ hq => by
        rcases hq with rfl | rfl
        · exact .inr (.inl (by rw [e]; rfl))
        · exact .inr (.inr em)
end
end Go.Proofs.Ytihjmigjphljnaa.Tk
