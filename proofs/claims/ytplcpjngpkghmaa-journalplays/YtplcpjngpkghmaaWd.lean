/-
  The disk's functions put and add: a file under a name.
-/
import Derived.Test.YtplcpjngpkghmaaWc
namespace Go.Proofs.Ytplcpjngpkghmaa
open Go.RowKit Go.Maps Go.WideMaps
theorem put_step {V w1 : World} {pb m n p : Nat} {M : DataW Nat} {s : ByteArray} {b c d : Value} (b1 : Below V.heap.size V w1) (h : V.heap[pb]? = some (.cells #[.map (some m), b, c, d] 63 (0, 0))) (hown : V.ownsMap Try.prog 9 pE m n M) (hn : n < maxLen) (hkey : keyOf Try.prog 9 (.string s) = some (.string s.data.toList)) :
    w1.cell? ⟨pb, 0, none⟩ = some (.map (some m)) ∧ ∃ w2, (Instr.mapUpdate 61 (.map (some m)) (.string s) (.pointer (some ⟨p, 0, none⟩))).run Try.prog w1 = .ok () w2 ∧ Hid (w2.ownsMap Try.prog 9 pE m (n + 1) (M.put (.string s.data.toList) (.held p)) ∧ Kp (· = m) V w2) := by
  obtain ⟨w2, hr2, hown2, hgr2⟩ := (keepMap hown (b1.block m hown.lt)).update law9 Try.underlying61 hn hkey (val := .pointer (some ⟨p, 0, none⟩)) (d := .held p) (ps := []) rfl
  exact ⟨(c4 (at_below b1 (Nat.le_refl _) h)).1, w2, hr2, hown2, Kp.trans (S := (· = m)) (Kp.of_below b1) (Kp.of_grown (S := (· = m)) hgr2 fun k e => (Option.some.inj e).symm) fun _ _ h => h⟩
set_option maxHeartbeats 1000000 in
set_option maxRecDepth 100000 in
theorem put_some (w : World) (pb m n p : Nat) (M : DataW Nat) (b c d : Value) (s : ByteArray) (hs : s.size ≤ maxLen) (hc : s.size ≤ 281474976710656) (h : Hid (w.heap[pb]? = some (.cells #[.map (some m), b, c, d] 63 (0, 0)))) (hown : Hid (w.ownsMap Try.prog 9 pE m n M)) (hn : Hid (n < maxLen)) :
    Calls Try.prog 64 #[.pointer (some ⟨pb, 0, none⟩), .string s, .pointer (some ⟨p, 0, none⟩)] w fun e w' => e = .returned (.tuple #[]) ∧ w'.ownsMap Try.prog 9 pE m (n + 1) (M.put (.string s.data.toList) (.held p)) ∧ Kp (· = m) w w' := by
  have H55 : Hid (∀ w, Calls Try.prog 73 #[.string s] w fun e w' => e = .returned (.string s) ∧ Below w.heap.size w w') := fun w => clone_at s w hc
  have hkey : Hid (keyOf Try.prog 9 (.string s) = some (.string s.data.toList)) := keyOf_string_mk (P := Try.prog) Try.underlying9 hs
  have qT : ∀ (w : World) (r : Option Nat), (binOp .eql 61 (.map r) (.map none)).run Try.prog w = .ok (.bool r.isNone) w := fun w r => run_eql_map_nil w _ _ _ r Try.underlying61
  obtain ⟨e0, e1, e2, e3⟩ := c4 h.out
  go_enter Try.func64, Try.ntmps64
  go_wp2_with fail
  go_region_with (go_at_call 73; refine (H55.out _).mono ?_; rintro e w1 ⟨rfl, b1⟩; obtain ⟨e0', w2, hr2, H2⟩ := put_step (p := p) b1 h.out hown.out hn.out hkey.out; clear b1)
  all_goals go_end0
  all_goals exact ⟨rfl, H2.out.1, ⟨H2.out.2.os, H2.out.2.tape, H2.out.2.output, H2.out.2.size, H2.out.2.block⟩⟩
theorem unfrozen_alloc {w : World} {g : Nat} {cs : Array Value} {t : TypeId} (h : w.heap[g]? = some (.cells cs t (0, 0))) (o : Obj) (i : Nat) : (w.alloc o).frozen? ⟨g, i, none⟩ = false := fz ((Below.heap_alloc w o g (Array.getElem?_eq_some_iff.1 h).1).trans h) i
set_option maxHeartbeats 1000000 in
set_option maxRecDepth 100000 in
theorem put_none (w : World) (pb p : Nat) (b c d : Value) (s : ByteArray) (hs : s.size ≤ maxLen) (hc : s.size ≤ 281474976710656) (h : Hid (w.heap[pb]? = some (.cells #[.map none, b, c, d] 63 (0, 0)))) :
    Calls Try.prog 64 #[.pointer (some ⟨pb, 0, none⟩), .string s, .pointer (some ⟨p, 0, none⟩)] w fun e w' => e = .returned (.tuple #[]) ∧ w'.ownsMap Try.prog 9 pE w.heap.size 1 ((mapOf []).put (.string s.data.toList) (.held p)) ∧ w'.heap[pb]? = some (.cells #[.map (some w.heap.size), b, c, d] 63 (0, 0)) ∧ Kp (· = pb) w w' := by
  have H55 : Hid (∀ w, Calls Try.prog 73 #[.string s] w fun e w' => e = .returned (.string s) ∧ Below w.heap.size w w') := fun w => clone_at s w hc
  have hkey : Hid (keyOf Try.prog 9 (.string s) = some (.string s.data.toList)) := keyOf_string_mk (P := Try.prog) Try.underlying9 hs
  have qT : ∀ (w : World) (r : Option Nat), (binOp .eql 61 (.map r) (.map none)).run Try.prog w = .ok (.bool r.isNone) w := fun w r => run_eql_map_nil w _ _ _ r Try.underlying61
  have hmm := @run_makeMap Try.prog
  obtain ⟨e0, e1, e2, e3⟩ := c4 h.out
  have f0 := unfrozen_alloc h.out (.map #[] 0) 0
  have hlt : pb < w.heap.size := (Array.getElem?_eq_some_iff.1 h.out).1
  have e0a := (c4 ((Below.heap_alloc w (.map #[] 0) pb hlt).trans h.out)).1
  have G1 : Hid (((w.alloc (.map #[] 0)).setCell ⟨pb, 0, none⟩ (.map (some w.heap.size))).heap[pb]? = some (.cells #[.map (some w.heap.size), b, c, d] 63 (0, 0))) := setB ((Below.heap_alloc w _ pb hlt).trans h.out) _
  have G2 : Hid (((w.alloc (.map #[] 0)).setCell ⟨pb, 0, none⟩ (.map (some w.heap.size))).ownsMap Try.prog 9 pE w.heap.size 0 (mapOf [])) := (World.ownsMap_made w Try.prog 9 pE).setCell (by simp; omega) _
  have G3 : Hid (Kp (· = pb) w ((w.alloc (.map #[] 0)).setCell ⟨pb, 0, none⟩ (.map (some w.heap.size)))) := (Kp.of_below ((Below.refl _ w).alloc (Nat.le_refl _) _)).trans (Kp.of_set (S := (· = pb)) _ ⟨pb, 0, none⟩ _ rfl) fun _ _ h => h
  clear hlt
  go_enter Try.func64, Try.ntmps64
  go_wp2_with fail
  have e0' := (c4 G1.out).1
  clear e0 e1 e2 e3 f0 e0a
  generalize (w.alloc (.map #[] 0)).setCell ⟨pb, 0, none⟩ (.map (some w.heap.size)) = W at *
  have hn0 : Hid (0 < maxLen) := (by unfold maxLen; omega : 0 < maxLen)
  have hm : Hid (w.heap.size ≠ pb ∧ w.heap.size < W.heap.size) := ⟨fun e => by have := (Array.getElem?_eq_some_iff.1 h.out).1; omega, G2.out.lt⟩
  go_region_with (go_at_call 73; refine (H55.out _).mono ?_; rintro e w1 ⟨rfl, b1⟩; obtain ⟨e0', w2, hr2, H2⟩ := put_step (p := p) b1 G1.out G2.out hn0.out hkey.out; clear b1)
  all_goals go_end0
  all_goals exact ⟨rfl, H2.out.1, (H2.out.2.block pb (Array.getElem?_eq_some_iff.1 G1.out).1 (fun e => hm.out.1 e.symm)).trans G1.out, Kp.trans G3.out (S' := (· = w.heap.size)) ⟨H2.out.2.os, H2.out.2.tape, H2.out.2.output, H2.out.2.size, H2.out.2.block⟩ (fun k hk e => absurd e (by omega))⟩

theorem put_any (w : World) (pb : Nat) (mb : Option Nat) (l : List Fl) (f : Fl) (b c d : Value) (s : ByteArray) (hs : s.size ≤ maxLen) (hc : s.size ≤ 281474976710656) (hf : s.data.toList = f.nm) (h : w.heap[pb]? = some (.cells #[.map mb, b, c, d] 63 (0, 0)))
    (hm : match mb with | none => l = [] | some m => m ≠ pb ∧ w.ownsMap Try.prog 9 pE m l.length (mapOf l)) (hl : l.length ≤ 64) :
    Calls Try.prog 64 #[.pointer (some ⟨pb, 0, none⟩), .string s, .pointer (some ⟨f.fb, 0, none⟩)] w fun e w' => e = .returned (.tuple #[]) ∧ ∃ m', (mb = some m' ∨ (mb = none ∧ m' = w.heap.size)) ∧
      w'.heap[pb]? = some (.cells #[.map (some m'), b, c, d] 63 (0, 0)) ∧ w'.ownsMap Try.prog 9 pE m' (ins Fl.nm f (drp Fl.nm f.nm l)).length (mapOf (ins Fl.nm f (drp Fl.nm f.nm l))) ∧ Kp (fun k => k = pb ∨ some k = mb) w w' := by
  cases mb with
  | none =>
    simp only at hm
    subst hm
    refine (put_none w pb f.fb b c d s hs hc h).mono ?_
    rintro e w' ⟨rfl, h1, h2, h3⟩
    rw [hf, mapOf_put _ _ _ rfl] at h1
    have h1' := tight h1
    rw [mapOf_size] at h1'
    exact ⟨rfl, _, .inr ⟨rfl, rfl⟩, h2, h1', h3.mono fun k _ e => .inl e⟩
  | some m =>
    simp only at hm
    refine (put_some w pb m l.length f.fb (mapOf l) b c d s hs hc h hm.2 (by unfold Hid maxLen; omega)).mono ?_
    rintro e w' ⟨rfl, h1, h3⟩
    rw [hf, mapOf_put _ _ _ rfl] at h1
    have h1' := tight h1
    rw [mapOf_size] at h1'
    exact ⟨rfl, m, .inl rfl, (h3.block pb (Array.getElem?_eq_some_iff.1 h).1 (fun e => hm.1 e.symm)).trans h, h1', h3.mono fun k _ e => .inr (by rw [e])⟩

theorem DkAt.putted {w w1 : World} {tg tg' : Nat → Tg} {pb : Nat} {D : DK} {mb : Option Nat} {l l1 : List Fl} {z : Int} {f : Fl} {m' : Nat} {S : Nat → Prop} (h : DkAt w tg pb D mb l z)
    (hc : w1.heap[pb]? = some (.cells #[.map (some m'), .bool D.down, .bool D.fuse.isSome, .int .i64 z] 63 (0, 0))) (hk : Kp S w w1) (hS : ∀ k, k < w.heap.size → S k → tg k = .dk ∨ tg k = .mp)
    (t1 : tg' pb = .dk) (t2 : tg' m' = .mp) (t3 : ∀ g ∈ l1, g.nm ≠ f.nm → ∀ k, (tg k = .fl g.nm ∨ tg k = .rw g.nm) → tg' k = tg k) (hf : FlAt w1 tg' f)
    (ho : w1.ownsMap Try.prog 9 pE m' (ins Fl.nm f (drp Fl.nm f.nm l1)).length (mapOf (ins Fl.nm f (drp Fl.nm f.nm l1)))) (hl : (ins Fl.nm f (drp Fl.nm f.nm l1)).length ≤ 64) (ht : ∀ k, tg' k ≠ .no → k < w1.heap.size)
    (hs : Srt Fl.nm l1) (hsub : ∀ g ∈ l1, g ∈ l) : DkAt w1 tg' pb ⟨(ins Fl.nm f (drp Fl.nm f.nm l1)).map Fl.s, D.down, D.fuse⟩ (some m') (ins Fl.nm f (drp Fl.nm f.nm l1)) z := by
  refine ⟨hc, t1, rfl, h.fz, ⟨t2, ho⟩, fun g hg => ?_, srt_ins (srt_drp hs) (fun y hy => (mem_drp.1 hy).2), hl, ht⟩
  rcases mem_ins.1 hg with rfl | hg
  · exact hf
  · obtain ⟨hg1, hg2⟩ := mem_drp.1 hg
    refine (h.fl g (hsub g hg1)).keep (fun k hk1 => hk.block k (h.lt k ?_) fun e => ?_) (fun k hk1 => t3 g hg1 hg2 k hk1)
    · rcases hk1 with hk1 | hk1 <;> rw [hk1] <;> exact nofun
    · have hlt := h.lt k (by rcases hk1 with hk1 | hk1 <;> rw [hk1] <;> exact nofun)
      rcases hS k hlt e with h2 | h2 <;> rcases hk1 with hk1 | hk1 <;> rw [hk1] at h2 <;> cases h2

set_option maxHeartbeats 1000000 in
theorem add_raw (w : World) (pb : Nat) (s : ByteArray) (R : World → Prop) (H : Hid (Calls Try.prog 64 #[.pointer (some ⟨pb, 0, none⟩), .string s, .pointer (some ⟨w.heap.size, 0, none⟩)] (w.alloc (.cells #[.slice none 0 0, .int .i64 0] 84)) fun e w' => e = .returned (.tuple #[]) ∧ R w')) :
    Calls Try.prog 52 #[.pointer (some ⟨pb, 0, none⟩), .string s] w fun e w' => e = .returned (.pointer (some ⟨w.heap.size, 0, none⟩)) ∧ R w' := by
  have H45 : Hid (∀ (Q : Ending → World → Prop), (∀ e w', (e = .returned (.tuple #[]) ∧ R w') → Q e w') → Calls Try.prog 64 #[.pointer (some ⟨pb, 0, none⟩), .string s, .pointer (some ⟨w.heap.size, 0, none⟩)] (w.alloc (.cells #[.slice none 0 0, .int .i64 0] 84)) Q) := fun Q hQ => H.out.mono hQ
  clear H
  go_enter Try.func52, Try.ntmps52
  go_wp2_with (go_at_call 64; refine H45.out _ ?_)
  rintro e w1 ⟨rfl, b1⟩
  go_wp2_with fail
  go_ret
  exact ⟨rfl, b1⟩
end Go.Proofs.Ytplcpjngpkghmaa
