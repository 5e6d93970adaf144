/-
  The heap's functions keep, row, join, raise, and offer where there is none yet.
-/
import Derived.Test.YtcgaekaollhmpaaGreatNa
namespace Go.Proofs.YtcgaekaollhmpaaGreat
open Go.RowKit Go.Maps

theorem law3 : Keyed Tryz.prog 3 := int_keyed Tryz.underlying3
theorem key3 (x : Nat) (hx : x < 9223372036854775808) : keyOf Tryz.prog 3 (.int .i64 x) = some (.int .i64 x) := keyOf_int_mk Tryz.underlying3 (by simp [Lit.wf, IntKind.min, IntKind.max, IntKind.bits, IntKind.signed]; omega)
def m0 : DataW Nat := .map []

set_option maxHeartbeats 1000000 in
theorem keep_some (w : World) (hb eb m n x : Nat) (M : DataW Nat) (f g : Nat → Value) (hx : x < 9223372036854775808) (hn : n < maxLen) (h : Hid (Blk w hb 98 32 f)) (hf : f 1 = .map (some m)) (he : Hid (Blk w eb 100 8 g)) (hg : g 0 = .int .i64 x) (hown : Hid (w.ownsMap Tryz.prog 3 pE m n M)) :
    Calls Tryz.prog 44 #[ptr hb, ptr eb] w fun e w' => e = .returned (.tuple #[]) ∧ w'.ownsMap Tryz.prog 3 pE m (n + 1) (M.put (.int .i64 x) (.held eb)) ∧ Kp (· = m) w w' := by
  have qT : ∀ (w : World) (r : Option Nat), (binOp .eql 92 (.map r) (.map none)).run Tryz.prog w = .ok (.bool r.isNone) w := fun w r => run_eql_map_nil w _ _ _ r Tryz.underlying92
  have e1 := h.out.cell 1 (by decide)
  have e2 := he.out.cell 0 (by decide)
  rw [hf] at e1
  rw [hg] at e2
  obtain ⟨w2, hr2, H2⟩ : ∃ w2, (Instr.mapUpdate 92 (.map (some m)) (.int .i64 x) (.pointer (some ⟨eb, 0, none⟩))).run Tryz.prog w.drew = .ok () w2 ∧ Hid (w2.ownsMap Tryz.prog 3 pE m (n + 1) (M.put (.int .i64 x) (.held eb)) ∧ Kp (· = m) w w2) := by
    obtain ⟨w2, hr2, hown2, hgr2⟩ := (keepMap (w1 := w.drew) hown.out rfl).update law3 Tryz.underlying92 hn (key3 x hx) (val := .pointer (some ⟨eb, 0, none⟩)) (d := .held eb) (ps := []) rfl
    have hk : Kp (· = m) w.drew w2 := Kp.of_grown hgr2 fun k e => (Option.some.inj e).symm
    exact ⟨w2, hr2, hown2, ⟨hk.os, hk.tape, hk.output, hk.size, hk.block⟩⟩
  unfold ptr
  clear hf hg hx hn
  go_enter Tryz.func44, Tryz.ntmps44
  go_wp2_with fail
  go_region
  all_goals go_end0
  all_goals exact ⟨rfl, H2.out.1, ⟨H2.out.2.os, H2.out.2.tape, H2.out.2.output, H2.out.2.size, H2.out.2.block⟩⟩

theorem blk_alloc {w : World} {b t n : Nat} {f : Nat → Value} (h : Blk w b t n f) (o : Obj) : Blk (w.alloc o) b t n f := at_alloc h
set_option maxHeartbeats 1000000 in
theorem keep_none (w : World) (hb eb x : Nat) (f g : Nat → Value) (hx : x < 9223372036854775808) (h : Hid (Blk w hb 98 32 f)) (hf : f 1 = .map none) (he : Hid (Blk w eb 100 8 g)) (hg : g 0 = .int .i64 x) (hne : hb ≠ eb) :
    Calls Tryz.prog 44 #[ptr hb, ptr eb] w fun e w' => e = .returned (.tuple #[]) ∧ w'.ownsMap Tryz.prog 3 pE w.heap.size 1 (m0.put (.int .i64 x) (.held eb)) ∧ Blk w' hb 98 32 (fset f 1 (.map (some w.heap.size))) ∧ Kp (· = hb) w w' := by
  have qT : ∀ (w : World) (r : Option Nat), (binOp .eql 92 (.map r) (.map none)).run Tryz.prog w = .ok (.bool r.isNone) w := fun w r => run_eql_map_nil w _ _ _ r Tryz.underlying92
  have hmm := @run_makeMap Tryz.prog
  have hlt := h.out.lt
  have e1 := h.out.cell 1 (by decide)
  rw [hf] at e1
  have e1a := (blk_alloc h.out (.map #[] 0)).cell 1 (by decide)
  rw [hf] at e1a
  have f0 := (blk_alloc h.out (.map #[] 0)).fz 1
  have G1 : Hid (Blk ((w.alloc (.map #[] 0)).setCell ⟨hb, 1, none⟩ (.map (some w.heap.size))) hb 98 32 (fset f 1 (.map (some w.heap.size)))) := (blk_alloc h.out (.map #[] 0)).set 1 _
  have G0 : Hid (Blk ((w.alloc (.map #[] 0)).setCell ⟨hb, 1, none⟩ (.map (some w.heap.size))) eb 100 8 g) := (blk_alloc he.out (.map #[] 0)).other _ _ hne
  have G2 : Hid (((w.alloc (.map #[] 0)).setCell ⟨hb, 1, none⟩ (.map (some w.heap.size))).ownsMap Tryz.prog 3 pE w.heap.size 0 m0) := (World.ownsMap_made w Tryz.prog 3 pE).setCell (by simp; omega) _
  have G3 : Hid (Kp (· = hb) w ((w.alloc (.map #[] 0)).setCell ⟨hb, 1, none⟩ (.map (some w.heap.size)))) := (Kp.of_below ((Below.refl _ w).alloc (Nat.le_refl _) _)).trans (Kp.of_set (S := (· = hb)) _ ⟨hb, 1, none⟩ _ rfl) fun _ _ h => h
  have hm : Hid (hb < w.heap.size) := hlt
  clear hlt hne
  unfold ptr
  go_enter Tryz.func44, Tryz.ntmps44
  go_wp2_with fail
  clear e1 f0 e1a
  generalize (w.alloc (.map #[] 0)).setCell ⟨hb, 1, none⟩ (.map (some w.heap.size)) = W at *
  have e1 : W.cell? ⟨hb, 1, none⟩ = some (.map (some w.heap.size)) := G1.out.cell 1 (by decide)
  have e2 := G0.out.cell 0 (by decide)
  rw [hg] at e2
  obtain ⟨w2, hr2, H2⟩ : ∃ w2, (Instr.mapUpdate 92 (.map (some w.heap.size)) (.int .i64 x) (.pointer (some ⟨eb, 0, none⟩))).run Tryz.prog W.drew = .ok () w2 ∧ Hid (w2.ownsMap Tryz.prog 3 pE w.heap.size 1 (m0.put (.int .i64 x) (.held eb)) ∧ Kp (· = w.heap.size) W w2) := by
    obtain ⟨w2, hr2, hown2, hgr2⟩ := (keepMap (w1 := W.drew) G2.out rfl).update law3 Tryz.underlying92 (by unfold maxLen; omega) (key3 x hx) (val := .pointer (some ⟨eb, 0, none⟩)) (d := .held eb) (ps := []) rfl
    have hk : Kp (· = w.heap.size) W.drew w2 := Kp.of_grown hgr2 fun k e => (Option.some.inj e).symm
    exact ⟨w2, hr2, hown2, ⟨hk.os, hk.tape, hk.output, hk.size, hk.block⟩⟩
  go_region
  all_goals go_end0
  all_goals exact ⟨rfl, H2.out.1, G1.out.at (H2.out.2.block hb G1.out.lt (fun e => by have := hm.out; omega)), G3.out.trans (S' := (· = w.heap.size)) ⟨H2.out.2.os, H2.out.2.tape, H2.out.2.output, H2.out.2.size, H2.out.2.block⟩ fun k hk e => by omega⟩

set_option maxHeartbeats 1000000 in
theorem row_any (w : World) (hb eb d c : Nat) (a : Option Addr) (g : Nat → Value) (he : Hid (Blk w eb 100 8 g)) (hg : g 5 = .slice a d c) (hd : d < 29) :
    Calls Tryz.prog 72 #[ptr hb, ptr eb] w fun e w' => e = .returned (.pointer (some ⟨hb, 2 + d, none⟩)) ∧ Below w.heap.size w w' ∧ w'.heap.size = w.heap.size := by
  have e2 := he.out.cell 5 (by decide)
  rw [hg] at e2
  have hd' : (d : Int) < 29 := by omega
  unfold ptr
  go_enter Tryz.func72, Tryz.ntmps72
  go_wp2_with fail
  go_region
  all_goals go_wp2_with fail
  all_goals go_ret
  all_goals exact ⟨rfl, ⟨rfl, rfl, rfl, Nat.le_refl _, fun _ _ => rfl⟩, rfl⟩
end Go.Proofs.YtcgaekaollhmpaaGreat
