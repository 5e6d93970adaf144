/-
  Len, Fix, Pop.
-/
import Derived.Test.YtihjmigjphljnaaTWh
namespace Go.Proofs.Ytihjmigjphljnaa.Tk
open Go.RowKit Go.Maps Go.WideMaps
variable {nv : Value}

theorem len_raw (w : World) (cb n : Nat) (q : Option Addr) (c : Nat) (c0 : w.cell? ⟨cb, 1, none⟩ = some (.slice q n c)) :
    Calls Try.prog 46 #[.pointer (some ⟨cb, 1, none⟩)] w fun e w' => e = .returned (.int .i64 n) ∧ w' = w := by
  go_enter Try.func46, Try.ntmps46
  go_wp2_with fail
  go_ret
  exact ⟨rfl, rfl⟩
theorem len_nil (w : World) : Calls Try.prog 46 #[.pointer none] w fun e w' => e = .returned (.int .i64 0) ∧ w' = w := by
  go_enter Try.func46, Try.ntmps46
  go_wp2_with fail
  go_ret
  exact ⟨rfl, rfl⟩
theorem len_S {w : World} {cb : Nat} {S : HS} (h : Mem w cb S) : Calls Try.prog 46 #[.pointer (some ⟨cb, 1, none⟩)] w fun e w' => e = .returned (.int .i64 S.l.length) ∧ w' = w := by
  obtain ⟨a, c, e⟩ := h.rw.shape
  exact len_raw w cb _ a c (by rw [h.c0, e])
set_option maxHeartbeats 1000000 in
theorem fix_S {w0 w : World} {cb i : Nat} {S : HS} {l : List Al} (h : Hid (Si w0 w cb S S.l.length i i l)) :
    Calls Try.prog 54 #[.iface 100 (.agg #[.pointer (some ⟨cb, 1, none⟩)]), .int .i64 i] w fun e w' => e = .returned (.tuple #[]) ∧ Up w0 w' cb S S.l.length := by
  have H12 : Hid (Calls Try.prog 46 #[.pointer (some ⟨cb, 1, none⟩)] w fun e w' => e = .returned (.int .i64 S.l.length) ∧ w' = w) := by
    have := len_S h.out.v.m
    rw [show (S.wl l).l.length = S.l.length from h.out.v.len] at this
    exact this
  have H33 : Hid (Calls Try.prog 68 #[.iface 100 (.agg #[.pointer (some ⟨cb, 1, none⟩)]), .int .i64 i, .int .i64 S.l.length] w fun e w' => ∃ b, e = .returned (.bool b) ∧ Dp w0 w' cb S S.l.length i b) := down_S h
  have H34 : Hid (∀ W l, Ri w0 W cb S S.l.length i l → Calls Try.prog 69 #[.iface 100 (.agg #[.pointer (some ⟨cb, 1, none⟩)]), .int .i64 i] W fun e w' => e = .returned (.tuple #[]) ∧ Up w0 w' cb S S.l.length) := fun W l h => up_S h
  clear h
  generalize S.l.length = n at *
  go_enter Try.func54, Try.ntmps54
  go_upto_region 1 with (first | (go_at_call 46; refine H12.out.mono ?_; rintro e w1 ⟨rfl, rfl⟩) | (go_at_call 68; refine H33.out.mono ?_; rintro e w1 ⟨b, rfl, hb⟩))
  · cases b with
    | true => rename_i h; cases h
    | false =>
      obtain ⟨l1, hb1⟩ := hb
      have H := H34.out w1 l1 hb1
      clear hb1 H34 H33 H12
      go_wp2_with (go_at_call 69; refine H.mono ?_; rintro e w2 ⟨rfl, hu⟩)
      go_end0
      exact ⟨rfl, hu⟩
  · cases b with
    | false => rename_i h; cases h
    | true =>
      go_end0
      exact ⟨rfl, hb⟩
theorem elem35 : Try.prog.underlying 58 = some (.slice (Try.prog.elem 58)) := by kernel_rfl
theorem size35 : ∀ w, (sizeOf (Try.prog.elem 58)).run Try.prog w = .ok 2 w := fun w => by kernel_rfl
theorem slice_h (g n c m : Nat) (h : m ≤ c) (hc : 0 < c) : ∀ w, (Instr.sliceAt 58 (.slice (some ⟨g, 0, none⟩) n c) none (some (.int .i64 m)) none).run Try.prog w = .ok (.slice (some ⟨g, 0, none⟩) m c) w := fun w => by
  rw [run_sliceAt_slice (h := elem35), run_slice_h (ht := elem35) (h0 := by omega) (h2 := by omega), size35]
  simp only [Result.andThen, Int.toNat_natCast]
  unfold sliced
  rw [if_neg (by omega)]
  rfl
set_option maxHeartbeats 2000000 in
theorem pop_raw (w : World) (cb g n k c m : Nat) (hnk : n = k + 1) (a : Al) (cs : Array Value) (hb : Hid (w.heap[cb]? = some (.cells #[nv, .slice (some ⟨g, 0, none⟩) n c, .map (some m)] 63 (0, 0)))) (hg : Hid (w.heap[g]? = some (.cells cs 79 (0, 0)))) (hc : n ≤ c) (hk : n ≤ 1024) (a0 : w.cell? ⟨g, k * 2, none⟩ = some (.string a.nm)) (a1 : w.cell? ⟨g, k * 2 + 1, none⟩ = some (.int .i64 a.at')) (M : DataW Nat) (hM : Hid (Mp w m M)) (hs : a.nm.size ≤ maxLen) :
    Calls Try.prog 94 #[.agg #[.pointer (some ⟨cb, 1, none⟩)]] w fun e w' => e = .returned (.iface 79 (.agg #[.string a.nm, .int .i64 a.at'])) ∧ w'.heap[cb]? = some (.cells #[nv, .slice (some ⟨g, 0, none⟩) k c, .map (some m)] 63 (0, 0)) ∧ w'.heap[g]? = some (.cells ((cs.setIfInBounds (k * 2) (.string ⟨#[]⟩)).setIfInBounds (k * 2 + 1) (.int .i64 0)) 79 (0, 0)) ∧ Mp w' m (M.del (.string a.k)) ∧ Kp (fun k => k = cb ∨ k = g ∨ k = m) w w' := by
  obtain ⟨an, aa⟩ := a
  simp only at hs a0 a1 ⊢
  have hn1 : (n : Int) - 1 = (k : Int) := by omega
  have hk0 : (k : Int) < n := by omega
  have hk1 : (n : Int) ≤ 1024 := by omega
  have hn0 : (1 : Int) ≤ n := by omega
  have HC : Hid (k < n ∧ n ≤ c) := ⟨by omega, hc⟩
  have hsl := slice_h g n c k (by omega) (by omega)
  clear hnk hc hk
  have HB : Hid (Below w.heap.size w (w.alloc (.cells #[.pointer (some ⟨cb, 1, none⟩)] 100 (0, 0)))) := (Below.refl _ w).alloc (Nat.le_refl _) _
  have HN : Hid ((w.alloc (.cells #[.pointer (some ⟨cb, 1, none⟩)] 100 (0, 0))).heap[w.heap.size]? = some (.cells #[.pointer (some ⟨cb, 1, none⟩)] 100 (0, 0))) := new0
  go_enter Try.func94, Try.ntmps94
  go_upto_region 1 with fail
  have HM1 : Hid (Mp _ m M) := hM.out.keep (HB.out.block m hM.out.lt')
  have hb1 := at_below HB.out (Nat.le_refl _) hb.out
  have hg1 := at_below HB.out (Nat.le_refl _) hg.out
  replace a0 := cell_below a0 HB.out
  replace a1 := cell_below a1 HB.out
  have hlc : Hid (cb < w.heap.size ∧ g < w.heap.size ∧ m < w.heap.size) := ⟨(Array.getElem?_eq_some_iff.1 hb.out).1, (Array.getElem?_eq_some_iff.1 hg.out).1, hM.out.lt'⟩
  generalize w.alloc (.cells #[.pointer (some ⟨cb, 1, none⟩)] 100 (0, 0)) = w1 at *
  have Hb1 : Hid _ := hb1
  have Hg1 : Hid _ := hg1
  have c0 : w1.cell? ⟨cb, 1, none⟩ = some (.slice (some ⟨g, 0, none⟩) n c) := by rw [cell_of hb1]; rfl
  have p0 : w1.cell? ⟨w.heap.size, 0, none⟩ = some (.pointer (some ⟨cb, 1, none⟩)) := by rw [cell_of HN.out]; rfl
  have f0 := fz hg1 (k * 2)
  have f1 := fz hg1 (k * 2 + 1)
  have l0 := cell_lt c0
  have l1 := cell_lt a0
  have l2 := cell_lt p0
  simp only at l0 l1 l2
  clear hb1 hg1 hb hg hM
  go_upto_region 4 with fail
  have E2 : Hid (∀ j, j < w1.heap.size → j ≠ g → (((w1.setCell ⟨g, k * 2, none⟩ (.string ⟨#[]⟩)).setCell ⟨g, k * 2 + 1, none⟩ (.int .i64 0)).alloc (.cells #[.string an, .int .i64 aa] 79 (0, 0))).heap[j]? = w1.heap[j]?) := fun j h1 h2 => (Below.heap_alloc _ _ j (by simpa [World.setCell] using h1)).trans ((Below.heap_setCell _ _ _ _ h2).trans (Below.heap_setCell _ _ _ _ h2))
  have G2 : Hid ((((w1.setCell ⟨g, k * 2, none⟩ (.string ⟨#[]⟩)).setCell ⟨g, k * 2 + 1, none⟩ (.int .i64 0)).alloc (.cells #[.string an, .int .i64 aa] 79 (0, 0))).heap[g]? = some (.cells ((cs.setIfInBounds (k * 2) (.string ⟨#[]⟩)).setIfInBounds (k * 2 + 1) (.int .i64 0)) 79 (0, 0))) := (Below.heap_alloc _ _ g (by simpa [World.setCell] using l1)).trans (setB (setB Hg1.out _) _)
  have N2 : Hid ((((w1.setCell ⟨g, k * 2, none⟩ (.string ⟨#[]⟩)).setCell ⟨g, k * 2 + 1, none⟩ (.int .i64 0)).alloc (.cells #[.string an, .int .i64 aa] 79 (0, 0))).heap[w1.heap.size]? = some (.cells #[.string an, .int .i64 aa] 79 (0, 0))) := by
    have := new0 (w := (w1.setCell ⟨g, k * 2, none⟩ (.string ⟨#[]⟩)).setCell ⟨g, k * 2 + 1, none⟩ (.int .i64 0)) (o := .cells #[.string an, .int .i64 aa] 79 (0, 0))
    rw [show ((w1.setCell ⟨g, k * 2, none⟩ (.string ⟨#[]⟩)).setCell ⟨g, k * 2 + 1, none⟩ (.int .i64 0)).heap.size = w1.heap.size by simp [World.setCell]] at this
    exact this
  have K2 : Hid (Kp (· = g) w1 (((w1.setCell ⟨g, k * 2, none⟩ (.string ⟨#[]⟩)).setCell ⟨g, k * 2 + 1, none⟩ (.int .i64 0)).alloc (.cells #[.string an, .int .i64 aa] 79 (0, 0)))) := ((Kp.of_set (S := (· = g)) _ _ _ rfl).trans (Kp.of_set (S := (· = g)) _ _ _ rfl) fun _ _ h => h).trans (Kp.alloc (S := (· = g)) _ _) fun _ _ h => h
  clear f0 f1 a0 a1 c0 p0
  generalize ((w1.setCell ⟨g, k * 2, none⟩ (.string ⟨#[]⟩)).setCell ⟨g, k * 2 + 1, none⟩ (.int .i64 0)).alloc (.cells #[.string an, .int .i64 aa] 79 (0, 0)) = w2 at *
  have hne : Hid (cb ≠ g ∧ m ≠ g ∧ m ≠ cb) := ⟨(fun q => by have h1 := Hb1.out; have h2 := Hg1.out; rw [q, h2] at h1; exact absurd h1 (by simp)), HM1.out.ne Hg1.out, HM1.out.ne Hb1.out⟩
  have Hb2 : Hid (w2.heap[cb]? = some (.cells #[nv, .slice (some ⟨g, 0, none⟩) n c, .map (some m)] 63 (0, 0))) := (E2.out cb l0 hne.out.1).trans Hb1.out
  have HM2 : Hid (Mp w2 m M) := HM1.out.keep (E2.out m (by have := hlc.out; omega) hne.out.2.1)
  have P2 : Hid (w2.heap[w.heap.size]? = some (.cells #[.pointer (some ⟨cb, 1, none⟩)] 100 (0, 0))) := (E2.out _ l2 (by have := hlc.out; omega)).trans HN.out
  have c0 : w2.cell? ⟨cb, 1, none⟩ = some (.slice (some ⟨g, 0, none⟩) n c) := by rw [cell_of Hb2.out]; rfl
  have p0 : w2.cell? ⟨w.heap.size, 0, none⟩ = some (.pointer (some ⟨cb, 1, none⟩)) := by rw [cell_of P2.out]; rfl
  have f0 := fz Hb2.out 1
  have B3 : Hid ((w2.setCell ⟨cb, 1, none⟩ (.slice (some ⟨g, 0, none⟩) k c)).drew.heap[cb]? = some (.cells #[nv, .slice (some ⟨g, 0, none⟩) k c, .map (some m)] 63 (0, 0))) := setB Hb2.out _
  have E3 : Hid (∀ j, j ≠ cb → (w2.setCell ⟨cb, 1, none⟩ (.slice (some ⟨g, 0, none⟩) k c)).drew.heap[j]? = w2.heap[j]?) := fun j h => Below.heap_setCell _ _ _ _ h
  have K3 : Hid (Kp (· = cb) w2 (w2.setCell ⟨cb, 1, none⟩ (.slice (some ⟨g, 0, none⟩) k c)).drew) := (Kp.of_set (S := (· = cb)) w2 ⟨cb, 1, none⟩ _ rfl).drew 1
  go_region
  clear c0 p0 f0 hsl
  generalize (w2.setCell ⟨cb, 1, none⟩ (.slice (some ⟨g, 0, none⟩) k c)).drew = w3 at *
  have c1 : w3.cell? ⟨cb, 2, none⟩ = some (.map (some m)) := by rw [cell_of B3.out]; rfl
  have p0 : w3.cell? ⟨w.heap.size, 0, none⟩ = some (.pointer (some ⟨cb, 1, none⟩)) := by rw [cell_of ((E3.out _ (by have := hlc.out; omega)).trans P2.out)]; rfl
  have N3 : Hid (w3.heap[w1.heap.size]? = some (.cells #[.string an, .int .i64 aa] 79 (0, 0))) := (E3.out _ (by omega)).trans N2.out
  have q0 : w3.cell? ⟨w1.heap.size, 0, none⟩ = some (.string an) := by rw [cell_of N3.out]; rfl
  have HM3 : Hid (Mp w3 m M) := HM2.out.keep (E3.out m hne.out.2.2)
  obtain ⟨w4, hr4, ho4, ht4⟩ := World.ownsMap.drop (w := w3.drew) HM3.out law9 Try.underlying59 (keyOf_string_mk (P := Try.prog) Try.underlying9 hs) 0
  replace ho4 : Hid _ := ho4
  have T4 : Hid (Kp (· = m) w3 w4) := by
    have kk : Kp (· = m) w3.drew w4 := Kp.of_grown ht4.grown fun k q => (Option.some.inj q).symm
    exact ⟨kk.os, kk.tape, kk.output, kk.size, kk.block⟩
  clear ht4
  go_upto_region 5 with fail
  go_region
  have q2 : w4.cell? ⟨w1.heap.size, 0, none⟩ = some (.string an) := T4.out.cell q0 (by have := hlc.out; show ¬ w1.heap.size = m; omega)
  have q3 : w4.cell? ⟨w1.heap.size, 1, none⟩ = some (.int .i64 aa) := T4.out.cell (by rw [cell_of N3.out]; rfl) (by have := hlc.out; show ¬ w1.heap.size = m; omega)
  clear q0 c1 p0
  go_wp2_with fail
  go_ret
  have hl := hlc.out
  have hx := hne.out
  have s1 := HB.out.size
  have s2 := K2.out.size
  have s3 := K3.out.size
  refine ⟨rfl, ?_, ?_, tight ho4.out, ?_⟩
  · exact (T4.out.block cb (by omega) (fun e => hx.2.2 e.symm)).trans B3.out
  · exact (T4.out.block g (by omega) (fun e => hx.2.1 e.symm)).trans ((E3.out g (fun e => hx.1 e.symm)).trans G2.out)
  · refine (Kp.of_below HB.out).trans (((K2.out.mono (S' := fun k => k = cb ∨ k = g ∨ k = m) fun _ _ h => .inr (.inl h)).trans K3.out fun _ _ h => .inl h).trans T4.out fun _ _ h => .inr (.inr h)) fun _ _ h => h
theorem take_nod {l : List Al} (h : Nod l) (k : Nat) : Nod (l.take k) := List.Pairwise.sublist (List.take_sublist k l) h
theorem drop_map {l : List Al} (hn : Nod l) {k : Nat} (hk : l.length = k + 1) {M : DataW Nat} (ha : ∀ (s : List UInt8) (z : DataW Nat), M.atKey (.string s) z = ent (plc s l) z) (s : List UInt8) (z : DataW Nat) :
    (M.del (.string (gt l k).k)).atKey (.string s) z = ent (plc s (l.take k)) z := by
  have hn' := take_nod hn k
  have hgk := gt_some (l := l) (i := k) (by omega)
  by_cases e : s = (gt l k).k
  · subst e
    rw [atKey_del_same, plc_eq hn' (o := none) (fun i q => by cases q) (fun _ a hm q => ?_)]
    · rfl
    · obtain ⟨i, hi⟩ := List.getElem?_of_mem hm
      have hik : i < k := by
        have := (List.getElem?_eq_some_iff.1 hi).1
        rw [List.length_take] at this
        omega
      rw [List.getElem?_take_of_lt hik] at hi
      have := nod_idx hn hi hgk q
      omega
  · rw [atKey_del_other (str_ne e), ha]
    congr 1
    refine (plc_eq hn' (fun i hi => ?_) (fun hi a hm => plc_none hi a (List.mem_of_mem_take hm))).symm
    obtain ⟨a, h1, h2⟩ := plc_some hi
    have hil := (List.getElem?_eq_some_iff.1 h1).1
    have hik : i ≠ k := by
      rintro rfl
      rw [h1] at hgk
      exact e (by rw [← h2, ← Option.some.inj hgk])
    exact ⟨a, by rw [List.getElem?_take_of_lt (by omega)]; exact h1, h2⟩
theorem take_set0 {cs : Array Value} {l : List Al} {k : Nat} (h : cs.toList.take (l.length * 2) = flat l) (hk : l.length = k + 1) (u x : Value) : ((cs.setIfInBounds (k * 2) u).setIfInBounds (k * 2 + 1) x).toList.take ((l.take k).length * 2) = flat (l.take k) := by
  have hl : (l.take k).length = k := by rw [List.length_take]; omega
  rw [hl, Array.toList_setIfInBounds, Array.toList_setIfInBounds, List.take_set_of_le (by omega), List.take_set_of_le (Nat.le_refl _), flat_take, ← h, List.take_take]
  congr 1
  omega
def alV (a : Al) : Value := .agg #[.string a.nm, .int .i64 a.at']
theorem pop_S {w : World} {cb k : Nat} {S : HS} (h : Mem w cb S) (hk : S.l.length = k + 1) :
    Calls Try.prog 94 #[.agg #[.pointer (some ⟨cb, 1, none⟩)]] w fun e w' => e = .returned (.iface 79 (alV (gt S.l k))) ∧ ∃ lv, Mem w' cb ⟨lv, S.mb, S.l.take k, S.nv⟩ ∧ Chg cb S ⟨lv, S.mb, S.l.take k, S.nv⟩ w w' := by
  obtain ⟨g, c, cs, e, hg, hcs, hc1, hc2, hfl⟩ := h.rw.parts (by omega)
  obtain ⟨m, M, em, hM⟩ := h.some (by omega)
  have hR := h.rw
  rw [e] at hR
  have hgk := gt_some (l := S.l) (i := k) (by omega)
  have hp : w.heap[cb]? = some (.cells #[S.nv, .slice (some ⟨g, 0, none⟩) S.l.length c, .map (some m)] 63 (0, 0)) := by rw [h.hp, e, em]
  have hsm := h.sm
  refine (pop_raw w cb g S.l.length k c m hk (gt S.l k) cs hp hg hc1 hsm (hR.c0 hgk) (hR.c1 hgk) M hM.o (h.ok _ (List.mem_of_getElem? hgk))).mono ?_
  rintro e' w' ⟨rfl, q1, q2, q3, q4⟩
  have hl : (S.l.take k).length = k := by rw [List.length_take]; omega
  refine ⟨rfl, .slice (some ⟨g, 0, none⟩) k c, ⟨by rw [em]; exact q1, ?_, ?_, take_nod h.no k, fun a ha => h.ok a (List.mem_of_mem_take ha), by show (S.l.take k).length ≤ 1024; omega⟩, ⟨q4.mono fun j _ hj => ?_, fun j hj => ?_, rfl⟩⟩
  · show Row w' (.slice (some ⟨g, 0, none⟩) k c) (S.l.take k)
    have := Row.of_parts (l := S.l.take k) q2 (c := c) (by simpa using hcs) (by omega) hc2 (take_set0 hfl hk _ _)
    rw [hl] at this
    exact this
  · show match S.mb with | none => S.l.take k = [] | some m => ∃ M, MpL w' m (S.l.take k) M
    rw [em]
    refine ⟨_, q3, ?_, drop_map h.no hk hM.a⟩
    have := size_del (k := .string (gt S.l k).k) (World.ownsMap.tidy hM.o law9)
    rw [hM.has, plc_of h.no hgk, if_pos (by rfl), hM.n] at this
    show _ = (S.l.take k).length
    omega
  · rcases hj with rfl | rfl | rfl
    · exact .inl rfl
    · exact .inr (.inl (by rw [e]; rfl))
    · exact .inr (.inr em)
  · left
    rcases hj with rfl | hj | hj
    · exact .inl rfl
    · exact .inr (.inl (by rw [e]; exact hj))
    · exact .inr (.inr hj)
end Go.Proofs.Ytihjmigjphljnaa.Tk
