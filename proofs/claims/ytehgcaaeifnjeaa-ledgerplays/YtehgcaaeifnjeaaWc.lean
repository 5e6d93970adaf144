/-
  The ledger's functions add and Open.
-/
import Derived.Test.YtehgcaaeifnjeaaWb
namespace Go.Proofs.Ytehgcaaeifnjeaa
open Go.RowKit Go.Maps Go.WideMaps

def z8 : Obj := .cells #[.int .i64 0, .int .i64 0, .int .i64 0, .int .i64 0, .int .i64 0, .int .i64 0, .int .i64 0, .int .i64 0] 69 (0, 0)
theorem put_step {V w1 : World} {pb m n p : Nat} {M : DataW Nat} {s : ByteArray} (b1 : Below V.heap.size V w1) (h : V.heap[pb]? = some (.cells #[.map (some m)] 61 (0, 0))) (hown : V.ownsMap Try.prog 9 pE m n M) (hn : n < maxLen) (hkey : keyOf Try.prog 9 (.string s) = some (.string s.data.toList)) :
    w1.cell? ⟨pb, 0, none⟩ = some (.map (some m)) ∧ ∃ w2, (Instr.mapUpdate 59 (.map (some m)) (.string s) (.pointer (some ⟨p, 0, none⟩))).run Try.prog w1 = .ok () w2 ∧ Hid (w2.ownsMap Try.prog 9 pE m (n + 1) (M.put (.string s.data.toList) (.held p)) ∧ Kp (· = m) V w2) := by
  obtain ⟨w2, hr2, hown2, hgr2⟩ := (keepMap hown (b1.block m hown.lt)).update law9 Try.underlying59 hn hkey (val := .pointer (some ⟨p, 0, none⟩)) (d := .held p) (ps := []) rfl
  exact ⟨c1 (at_below b1 (Nat.le_refl _) h), w2, hr2, hown2, Kp.trans (S := (· = m)) (Kp.of_below b1) (Kp.of_grown (S := (· = m)) hgr2 fun k e => (Option.some.inj e).symm) fun _ _ h => h⟩
set_option maxHeartbeats 1000000 in
set_option maxRecDepth 100000 in
theorem add_some (w : World) (pb m n : Nat) (M : DataW Nat) (s : ByteArray) (hc : s.size ≤ 281474976710656) (h : Hid (w.heap[pb]? = some (.cells #[.map (some m)] 61 (0, 0)))) (hown : Hid (w.ownsMap Try.prog 9 pE m n M)) (hn : Hid (n < maxLen)) :
    Calls Try.prog 36 #[.pointer (some ⟨pb, 0, none⟩), .string s] w fun e w' => e = .returned (.pointer (some ⟨w.heap.size, 0, none⟩)) ∧ w'.ownsMap Try.prog 9 pE m (n + 1) (M.put (.string s.data.toList) (.held w.heap.size)) ∧ w'.heap[w.heap.size]? = some z8 ∧ Kp (· = m) w w' := by
  have H46 : Hid (∀ w, Calls Try.prog 46 #[.string s] w fun e w' => e = .returned (.string s) ∧ Below w.heap.size w w') := fun w => clone_at s w hc
  have hkey : Hid (keyOf Try.prog 9 (.string s) = some (.string s.data.toList)) := keyOf_string_mk (P := Try.prog) Try.underlying9 (by unfold maxLen; omega)
  have qT : ∀ (w : World) (r : Option Nat), (binOp .eql 59 (.map r) (.map none)).run Try.prog w = .ok (.bool r.isNone) w := fun w r => run_eql_map_nil w _ _ _ r Try.underlying59
  have e0 := c1 h.out
  have G1 : Hid ((w.alloc z8).heap[pb]? = some (.cells #[.map (some m)] 61 (0, 0))) := at_alloc h.out
  have G2 : Hid ((w.alloc z8).ownsMap Try.prog 9 pE m n M) := keepMap hown.out (Below.heap_alloc w z8 m hown.out.lt)
  have G3 : Hid ((w.alloc z8).heap[w.heap.size]? = some z8) := new0
  have G4 : Hid (Kp (· = m) w (w.alloc z8)) := Kp.alloc w z8
  unfold z8 at G1 G2 G3 G4
  have hm : Hid (m ≠ w.heap.size) := by have := hown.out.lt; show m ≠ w.heap.size; omega
  clear hc
  go_enter Try.func36, Try.ntmps36
  go_upto_region 4 with fail
  clear e0
  have e0 := c1 G1.out
  generalize hW : w.alloc (.cells #[.int .i64 0, .int .i64 0, .int .i64 0, .int .i64 0, .int .i64 0, .int .i64 0, .int .i64 0, .int .i64 0] 69) = W at *
  clear hW
  go_region_with (go_at_call 46; refine (H46.out _).mono ?_; rintro e w1 ⟨rfl, b1⟩; obtain ⟨e0', w2, hr2, H2⟩ := put_step (p := w.heap.size) b1 G1.out G2.out hn.out hkey.out; clear b1)
  all_goals go_wp2_with fail
  all_goals go_ret
  all_goals exact ⟨rfl, H2.out.1, (H2.out.2.block w.heap.size (Array.getElem?_eq_some_iff.1 G3.out).1 (fun e => hm.out e.symm)).trans G3.out, G4.out.trans (S' := (· = m)) ⟨H2.out.2.os, H2.out.2.tape, H2.out.2.output, H2.out.2.size, H2.out.2.block⟩ fun _ _ e => e⟩
theorem unfrozen_alloc {w : World} {g : Nat} {cs : Array Value} {t : TypeId} (h : w.heap[g]? = some (.cells cs t (0, 0))) (o : Obj) (i : Nat) : (w.alloc o).frozen? ⟨g, i, none⟩ = false := fz ((Below.heap_alloc w o g (Array.getElem?_eq_some_iff.1 h).1).trans h) i
set_option maxHeartbeats 1000000 in
set_option maxRecDepth 100000 in
theorem add_none (w : World) (pb : Nat) (s : ByteArray) (hc : s.size ≤ 281474976710656) (h : Hid (w.heap[pb]? = some (.cells #[.map none] 61 (0, 0)))) :
    Calls Try.prog 36 #[.pointer (some ⟨pb, 0, none⟩), .string s] w fun e w' => e = .returned (.pointer (some ⟨w.heap.size + 1, 0, none⟩)) ∧ w'.ownsMap Try.prog 9 pE w.heap.size 1 ((mapOf []).put (.string s.data.toList) (.held (w.heap.size + 1))) ∧ w'.heap[w.heap.size + 1]? = some z8 ∧ w'.heap[pb]? = some (.cells #[.map (some w.heap.size)] 61 (0, 0)) ∧ Kp (· = pb) w w' := by
  have H46 : Hid (∀ w, Calls Try.prog 46 #[.string s] w fun e w' => e = .returned (.string s) ∧ Below w.heap.size w w') := fun w => clone_at s w hc
  have hkey : Hid (keyOf Try.prog 9 (.string s) = some (.string s.data.toList)) := keyOf_string_mk (P := Try.prog) Try.underlying9 (by unfold maxLen; omega)
  have qT : ∀ (w : World) (r : Option Nat), (binOp .eql 59 (.map r) (.map none)).run Try.prog w = .ok (.bool r.isNone) w := fun w r => run_eql_map_nil w _ _ _ r Try.underlying59
  have hmm := @run_makeMap Try.prog
  have e0 := c1 h.out
  have f0 := unfrozen_alloc h.out (.map #[] 0) 0
  have hlt : pb < w.heap.size := (Array.getElem?_eq_some_iff.1 h.out).1
  have e0a := c1 (at_alloc (o := .map #[] 0) h.out)
  have G1 : Hid (((w.alloc (.map #[] 0)).setCell ⟨pb, 0, none⟩ (.map (some w.heap.size))).heap[pb]? = some (.cells #[.map (some w.heap.size)] 61 (0, 0))) := setB (at_alloc h.out) _
  have G2 : Hid (((w.alloc (.map #[] 0)).setCell ⟨pb, 0, none⟩ (.map (some w.heap.size))).ownsMap Try.prog 9 pE w.heap.size 0 (mapOf [])) := (World.ownsMap_made w Try.prog 9 pE).setCell (by simp; omega) _
  have G3 : Hid (Kp (· = pb) w ((w.alloc (.map #[] 0)).setCell ⟨pb, 0, none⟩ (.map (some w.heap.size)))) := (Kp.of_below ((Below.refl _ w).alloc (Nat.le_refl _) _)).trans (Kp.of_set (S := (· = pb)) _ ⟨pb, 0, none⟩ _ rfl) fun _ _ h => h
  have G4 : Hid (((w.alloc (.map #[] 0)).setCell ⟨pb, 0, none⟩ (.map (some w.heap.size))).heap.size = w.heap.size + 1) := by show _ = _; simp [World.setCell]
  clear hlt
  go_enter Try.func36, Try.ntmps36
  go_upto_region 3 with fail
  clear e0 f0 e0a
  generalize (w.alloc (.map #[] 0)).setCell ⟨pb, 0, none⟩ (.map (some w.heap.size)) = V at *
  go_upto_region 4 with fail
  have K1 : Hid ((V.alloc z8).heap[pb]? = some (.cells #[.map (some w.heap.size)] 61 (0, 0))) := at_alloc G1.out
  have K2 : Hid ((V.alloc z8).ownsMap Try.prog 9 pE w.heap.size 0 (mapOf [])) := keepMap G2.out (Below.heap_alloc V z8 _ G2.out.lt)
  have K3 : Hid ((V.alloc z8).heap[w.heap.size + 1]? = some z8) := by show _ = _; rw [← G4.out]; exact new0
  have K4 : Hid (Kp (· = pb) w (V.alloc z8)) := G3.out.trans (Kp.alloc (S := (· = pb)) V z8) fun _ _ h => h
  have K5 : Hid (V.heap.size = w.heap.size + 1) := G4.out
  have K6 : Hid (w.heap.size ≠ pb ∧ pb < w.heap.size) := ⟨by have := (Array.getElem?_eq_some_iff.1 h.out).1; omega, (Array.getElem?_eq_some_iff.1 h.out).1⟩
  unfold z8 at K1 K2 K3 K4
  have hn0 : Hid (0 < maxLen) := (by unfold maxLen; omega : 0 < maxLen)
  clear G1 G2 G3 G4
  rw [K5.out]
  generalize V.alloc (.cells #[.int .i64 0, .int .i64 0, .int .i64 0, .int .i64 0, .int .i64 0, .int .i64 0, .int .i64 0, .int .i64 0] 69) = W at *
  have e0 := c1 K1.out
  go_region_with (go_at_call 46; refine (H46.out _).mono ?_; rintro e w1 ⟨rfl, b1⟩; obtain ⟨e0', w2, hr2, H2⟩ := put_step (p := w.heap.size + 1) b1 K1.out K2.out hn0.out hkey.out; clear b1)
  all_goals go_wp2_with fail
  all_goals go_ret
  all_goals exact ⟨rfl, H2.out.1, (H2.out.2.block (w.heap.size + 1) (Array.getElem?_eq_some_iff.1 K3.out).1 (fun e => by omega)).trans K3.out, (H2.out.2.block pb (Array.getElem?_eq_some_iff.1 K1.out).1 (fun e => K6.out.1 e.symm)).trans K1.out, K4.out.trans (S' := (· = w.heap.size)) ⟨H2.out.2.os, H2.out.2.tape, H2.out.2.output, H2.out.2.size, H2.out.2.block⟩ fun k hk e => absurd e (by omega)⟩
theorem nil_ok : V.nil.ok = true := rfl
theorem LgAt.added {w w' : World} {pb m' fb : Nat} {mb : Option Nat} {l : List Ac} {n : List UInt8} (h : LgAt w pb mb l) (hn : fnd Ac.nm n l = none) (hl : l.length < 64) (hc : w'.heap[pb]? = some (.cells #[.map (some m')] 61 (0, 0))) (hm : w'.ownsMap Try.prog 9 pE m' (ins Ac.nm ⟨n, V.nil, V.nil, fb⟩ l).length (mapOf (ins Ac.nm ⟨n, V.nil, V.nil, fb⟩ l))) (hz : w'.heap[fb]? = some z8) (hf : w.heap.size ≤ fb) {S : Nat → Prop} (hk : Kp S w w') (hS : ∀ k, S k → k = pb ∨ mb = some k) : LgAt w' pb (some m') (ins Ac.nm ⟨n, V.nil, V.nil, fb⟩ l) := by
  refine ⟨hc, hm, fun a ha => ?_, srt_ins h.srt fun y hy => fnd_none hn y hy, fun a ha b hb e => ?_, by rw [ins_length]; omega, fun a ha => ?_⟩
  · rcases mem_ins.1 ha with rfl | ha
    · exact hz
    · refine (hk.block a.fb (h.lt (.inr (.inr ⟨a, ha, rfl⟩))) fun e => ?_).trans (h.ac a ha)
      rcases hS _ e with e | e
      · exact cells_ne (h.ac a ha) h.cell (by decide) e
      · have hm := h.mp
        rw [e] at hm
        exact map_block hm (h.ac a ha) rfl
  · rcases mem_ins.1 ha with rfl | ha <;> rcases mem_ins.1 hb with rfl | hb
    · rfl
    · have := h.lt (.inr (.inr ⟨b, hb, rfl⟩)); simp only at e; omega
    · have := h.lt (.inr (.inr ⟨a, ha, rfl⟩)); simp only at e; omega
    · exact h.inj a ha b hb e
  · rcases mem_ins.1 ha with rfl | ha
    · exact ⟨nil_ok, nil_ok⟩
    · exact h.ok a ha
structure Add (w w' : World) (pb : Nat) (mb : Option Nat) (l : List Ac) (n : List UInt8) (fb : Nat) (m' : Nat) : Prop where
  g : LgAt w' pb (some m') (ins Ac.nm ⟨n, V.nil, V.nil, fb⟩ l)
  k : Kp (Fp pb mb l) w w'
  m : mb = some m' ∨ w.heap.size ≤ m'
  f : w.heap.size ≤ fb
theorem addA_any {w : World} {pb : Nat} {mb : Option Nat} {l : List Ac} (h : LgAt w pb mb l) (s : ByteArray) (hs : s.size ≤ 281474976710656) (hn : fnd Ac.nm s.data.toList l = none) (hl : l.length < 64) :
    Calls Try.prog 36 #[.pointer (some ⟨pb, 0, none⟩), .string s] w fun e w' => ∃ fb, e = .returned (.pointer (some ⟨fb, 0, none⟩)) ∧ Hid (∃ m', Add w w' pb mb l s.data.toList fb m') := by
  have hd : drp Ac.nm s.data.toList l = l := drp_none hn
  cases mb with
  | none =>
    have hl0 : l = [] := h.mp
    subst hl0
    refine (add_none w pb s hs h.cell).mono ?_
    rintro e w' ⟨rfl, h1, h2, h3, h4⟩
    have e1 := mapOf_put [] s.data.toList ⟨s.data.toList, V.nil, V.nil, w.heap.size + 1⟩ rfl
    rw [hd] at e1
    rw [show (DataW.held (H := Nat) (w.heap.size + 1)) = .held (Ac.mk s.data.toList V.nil V.nil (w.heap.size + 1)).fb from rfl, e1] at h1
    exact ⟨_, rfl, _, h.added hn (by simp) h3 h1 h2 (by omega) h4 fun k e => .inl e, h4.mono fun k _ e => .inl e, .inr (Nat.le_refl _), by omega⟩
  | some m =>
    have hm : w.ownsMap Try.prog 9 pE m l.length (mapOf l) := h.mp
    refine (add_some w pb m l.length (mapOf l) s hs h.cell hm (by unfold Hid maxLen; omega)).mono ?_
    rintro e w' ⟨rfl, h1, h2, h4⟩
    have e1 := mapOf_put l s.data.toList ⟨s.data.toList, V.nil, V.nil, w.heap.size⟩ rfl
    rw [hd] at e1
    rw [show (DataW.held (H := Nat) w.heap.size) = .held (Ac.mk s.data.toList V.nil V.nil w.heap.size).fb from rfl, e1] at h1
    have h1' := tight h1
    rw [mapOf_size] at h1'
    exact ⟨_, rfl, _, h.added hn hl ((h4.block pb (h.lt (.inl rfl)) fun e => map_block hm h.cell e.symm).trans h.cell) h1' h2 (Nat.le_refl _) h4 fun k e => .inr (by rw [show k = m from e]), h4.mono fun k _ e => .inr (.inl (by rw [show k = m from e])), .inl rfl, Nat.le_refl _⟩
end Go.Proofs.Ytehgcaaeifnjeaa
