/-
  put, Swap.
-/
import Derived.Test.YtihjmigjphljnaaTWa
namespace Go.Proofs.Ytihjmigjphljnaa.Tk
open Go.RowKit Go.Maps Go.WideMaps
variable {nv : Value}

theorem cell_some {w : World} {g i : Nat} {cs : Array Value} {t : TypeId} {f : Nat × Nat} (h : w.heap[g]? = some (.cells cs t f)) (hi : i < cs.size) : ∃ v, w.cell? ⟨g, i, none⟩ = some v := ⟨cs[i], by rw [cell_of h, Array.getElem?_eq_getElem hi]⟩
theorem Mp.lt' {w : World} {m : Nat} {M : DataW Nat} (h : Mp w m M) : m < w.heap.size := World.ownsMap.lt h
theorem Mp.keep {w w1 : World} {m : Nat} {M : DataW Nat} (h : Mp w m M) (e : w1.heap[m]? = w.heap[m]?) : Mp w1 m M := keepMap h e
theorem Mp.ne {w : World} {m g : Nat} {M : DataW Nat} {cs : Array Value} {t : TypeId} {f : Nat × Nat} (h : Mp w m M) (hg : w.heap[g]? = some (.cells cs t f)) : m ≠ g := by
  rintro rfl
  obtain ⟨es, clock, hb, _⟩ := h
  rw [hb] at hg
  cases hg
set_option maxHeartbeats 1000000 in
theorem put_raw (w : World) (cb g n c m i : Nat) (a : Al) (cs : Array Value) (hb : Hid (w.heap[cb]? = some (.cells #[nv, .slice (some ⟨g, 0, none⟩) n c, .map (some m)] 63 (0, 0)))) (hg : Hid (w.heap[g]? = some (.cells cs 79 (0, 0)))) (hz : Hid (cs.size = c * 2)) (hi : i < n) (hc : n ≤ c) (M : DataW Nat) (hM : Hid (Mp w m M)) (hsz : Maps.size M < maxLen) (hs : a.nm.size ≤ maxLen) :
    Calls Try.prog 97 #[.agg #[.pointer (some ⟨cb, 1, none⟩)], .agg #[.string a.nm, .int .i64 a.at'], .int .i64 i] w fun e w' => e = .returned (.tuple #[]) ∧ w'.heap[g]? = some (.cells ((cs.setIfInBounds (i * 2) (.string a.nm)).setIfInBounds (i * 2 + 1) (.int .i64 a.at')) 79 (0, 0)) ∧ Mp w' m (M.put (.string a.k) (.lit (.int .i64 i))) ∧ Kp (fun k => k = g ∨ k = m) w w' := by
  have hi' : (i : Int) < (n : Int) := by omega
  obtain ⟨an, aa⟩ := a
  simp only at hs ⊢
  have Hk : Hid (Below w.heap.size w ((w.alloc (.cells #[.pointer (some ⟨cb, 1, none⟩)] 100 (0, 0))).alloc (.cells #[.string an, .int .i64 aa] 79 (0, 0)))) := ((Below.refl _ w).alloc (Nat.le_refl _) _).alloc (by simp) _
  have Hn1 : Hid (((w.alloc (.cells #[.pointer (some ⟨cb, 1, none⟩)] 100 (0, 0))).alloc (.cells #[.string an, .int .i64 aa] 79 (0, 0))).heap[w.heap.size]? = some (.cells #[.pointer (some ⟨cb, 1, none⟩)] 100 (0, 0))) := ((Below.refl (w.heap.size + 1) _).alloc (by simp) _).block _ (by simp) |>.trans new0
  have Hn2 : Hid (((w.alloc (.cells #[.pointer (some ⟨cb, 1, none⟩)] 100 (0, 0))).alloc (.cells #[.string an, .int .i64 aa] 79 (0, 0))).heap[w.heap.size + 1]? = some (.cells #[.string an, .int .i64 aa] 79 (0, 0))) := by
    have := new0 (w := w.alloc (.cells #[.pointer (some ⟨cb, 1, none⟩)] 100 (0, 0))) (o := .cells #[.string an, .int .i64 aa] 79 (0, 0))
    rw [show (w.alloc (.cells #[.pointer (some ⟨cb, 1, none⟩)] 100 (0, 0))).heap.size = w.heap.size + 1 by simp] at this
    exact this
  go_enter Try.func97, Try.ntmps97
  go_upto_region 1 with fail
  have hb2 := (Hk.out.block cb (Array.getElem?_eq_some_iff.1 hb.out).1).trans hb.out
  have hg2 := (Hk.out.block g (Array.getElem?_eq_some_iff.1 hg.out).1).trans hg.out
  have HM2 : Hid (Mp _ m M) := hM.out.keep (Hk.out.block m hM.out.lt')
  have Hlm : Hid (m < w.heap.size) := hM.out.lt'
  generalize (w.alloc (.cells #[.pointer (some ⟨cb, 1, none⟩)] 100 (0, 0))).alloc (.cells #[.string an, .int .i64 aa] 79 (0, 0)) = w2 at *
  have c0 : w2.cell? ⟨cb, 1, none⟩ = some (.slice (some ⟨g, 0, none⟩) n c) := by rw [cell_of hb2]; rfl
  have c1 : w2.cell? ⟨cb, 2, none⟩ = some (.map (some m)) := by rw [cell_of hb2]; rfl
  have p0 : w2.cell? ⟨w.heap.size, 0, none⟩ = some (.pointer (some ⟨cb, 1, none⟩)) := by rw [cell_of Hn1.out]; rfl
  have p1 : w2.cell? ⟨w.heap.size + 1, 0, none⟩ = some (.string an) := by rw [cell_of Hn2.out]; rfl
  have p2 : w2.cell? ⟨w.heap.size + 1, 1, none⟩ = some (.int .i64 aa) := by rw [cell_of Hn2.out]; rfl
  obtain ⟨z0, e0⟩ := cell_some hg2 (i := i * 2) (by rw [hz.out]; omega)
  obtain ⟨z1, e1⟩ := cell_some hg2 (i := i * 2 + 1) (by rw [hz.out]; omega)
  have f0 := fz hg2 (i * 2)
  have f1 := fz (setB hg2 (.string an) (i := i * 2)) (i * 2 + 1)
  have Hw3 : Hid ((((w2.setCell ⟨g, i * 2, none⟩ (.string an)).setCell ⟨g, i * 2 + 1, none⟩ (.int .i64 aa)).drew).heap[g]? = some (.cells ((cs.setIfInBounds (i * 2) (.string an)).setIfInBounds (i * 2 + 1) (.int .i64 aa)) 79 (0, 0))) := setB (setB hg2 _) _
  have He3 : Hid (∀ k, k ≠ g → (((w2.setCell ⟨g, i * 2, none⟩ (.string an)).setCell ⟨g, i * 2 + 1, none⟩ (.int .i64 aa)).drew).heap[k]? = w2.heap[k]?) := fun k hk => (Below.heap_setCell _ _ _ _ hk).trans (Below.heap_setCell _ _ _ _ hk)
  have Hk3 : Hid (Kp (fun k => k = g) w2 (((w2.setCell ⟨g, i * 2, none⟩ (.string an)).setCell ⟨g, i * 2 + 1, none⟩ (.int .i64 aa)).drew)) := ((Kp.of_set (S := fun k => k = g) w2 ⟨g, i * 2, none⟩ (.string an) rfl).trans (Kp.of_set (S := fun k => k = g) _ ⟨g, i * 2 + 1, none⟩ (.int .i64 aa) rfl) (fun _ _ h => h)).drew 1
  go_region
  clear e0 e1 f0 f1 c0 c1 p0 p1 p2
  generalize ((w2.setCell ⟨g, i * 2, none⟩ (.string an)).setCell ⟨g, i * 2 + 1, none⟩ (.int .i64 aa)).drew = w3 at *
  have hng : Hid (cb ≠ g) := fun e => by subst e; rw [hg2] at hb2; cases hb2
  have hlg : Hid (g < w.heap.size) := (Array.getElem?_eq_some_iff.1 hg.out).1
  have hmg : Hid (m ≠ g) := HM2.out.ne hg2
  have c1 : w3.cell? ⟨cb, 2, none⟩ = some (.map (some m)) := by rw [cell_of ((He3.out cb hng.out).trans hb2)]; rfl
  have p0 : w3.cell? ⟨w.heap.size, 0, none⟩ = some (.pointer (some ⟨cb, 1, none⟩)) := by rw [cell_of ((He3.out _ (fun e => by have := hlg.out; omega)).trans Hn1.out)]; rfl
  have p1 : w3.cell? ⟨w.heap.size + 1, 0, none⟩ = some (.string an) := by rw [cell_of ((He3.out _ (fun e => by have := hlg.out; omega)).trans Hn2.out)]; rfl
  have HM3 : Hid (Mp w3 m M) := HM2.out.keep (He3.out m hmg.out)
  obtain ⟨w4, hrun, hM4, hgr⟩ := World.ownsMap.update (w := w3.drew) HM3.out law9 Try.underlying59 hsz (keyOf_string_mk (P := Try.prog) Try.underlying9 hs) (val := .int .i64 i) (d := .lit (.int .i64 i)) (ps := []) rfl
  replace hM4 : Hid _ := hM4
  replace hgr : Hid _ := hgr
  clear HM3 HM2
  go_upto_region 2 with fail
  go_region
  go_wp2_with fail
  go_end0
  have kk := (Kp.of_grown hgr.out (S := fun k => k = m) (fun k e => (Option.some.inj e).symm))
  refine ⟨rfl, ?_, ?_, ?_⟩
  · exact (kk.block g (by have := hlg.out; have := Hk3.out.size; have := Hk.out.size; show g < w3.heap.size; omega) (Ne.symm hmg.out)).trans Hw3.out
  · exact tight hM4.out
  · refine (Kp.of_below Hk.out).trans ((Hk3.out.mono (S' := fun k => k = g ∨ k = m) fun k _ e => .inl e).trans (show Kp _ w3 w4 from ⟨kk.os, kk.tape, kk.output, kk.size, kk.block⟩) fun k _ e => .inr e) fun k _ e => e
end Go.Proofs.Ytihjmigjphljnaa.Tk
