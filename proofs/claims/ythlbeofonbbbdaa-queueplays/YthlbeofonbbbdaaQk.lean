/-
  A queue's first waiter.
-/
import Derived.Test.YthlbeofonbbbdaaQj
import Derived.Shelf.SlSortCmp.NoneTotal
namespace Go.Proofs.Ythlbeofonbbbdaa
open Go.RowKit Go.Maps Go.WideMaps

theorem sort_none (W : World) (p : Option Addr) (c : Nat) : Calls Try.prog 46 #[.slice p 0 c, .func (.func 47) #[] #[]] W fun e w' => e = .returned (.tuple #[]) ∧ w' = W := AnyF.slices_SortFunc_none { Try.sortH with } p c _ W
theorem line_any {w : World} {pb : Nat} {mw mh : Option Nat} {l : List Hd} (h : QW w pb mw mh l) (t : List UInt8) : Calls Try.prog 33 #[.pointer (some ⟨pb, 0, none⟩), .string ⟨⟨t⟩⟩] w (LnR w l t) := by
  cases mw with
  | none =>
    have hl : l = [] := h.wm
    refine (line_none w pb ⟨⟨t⟩⟩ (c2 h.cell).1 sort_none).mono ?_
    rintro e w' ⟨rfl, hb⟩
    exact ⟨none, 0, 0, [], rfl, rfl, by rw [hl]; exact List.Perm.refl _, List.Pairwise.nil, (fun i a hi => by simp at hi), hb⟩
  | some m =>
    obtain ⟨M, hM⟩ := h.wm
    exact line_some w pb m mh l M t h hM sort_none
/-- the first waiter stands, and has no heap yet -/
theorem one_W {w W w6 : World} {F : Nat → Prop} {o2 : Obj} {pb m m2 b0 eb : Nat} {x : J} {s : ByteArray} (hs : s.data.toList = x.tn) (h : A0 w W F o2 pb m m2 b0 eb x.job x.pr s m0) (hx : x.ok = true) (b : Below W.heap.size W w6) : QW w6 pb (some m) (some m2) [⟨x, 0, eb⟩] := by
  have es : s = ⟨⟨x.tn⟩⟩ := by rw [← hs]
  have hen := h.en
  rw [es] at hen
  refine ⟨at_below b (Nat.le_refl _) h.pc, ⟨m0.put (.int .i64 x.job) (.held eb), ?_, ?_, fun y z => ?_⟩, fun a ha => ?_, fun a ha c hc _ => ?_, ?_, fun a ha => ?_, ?_⟩
  · exact tight (keepMap h.mp (b.block m h.mp.lt))
  · rw [size_put tidy0]
    rfl
  · by_cases e : y = x.job
    · subst e
      rw [atKey_put_same isMap0 (isKey _)]
      simp [aJ]
    · rw [atKey_put_other (lit_ne e)]
      have : ¬ x.job = y := fun q => e q.symm
      simp [aJ, this, m0_a]
  · rw [List.mem_singleton.1 ha]
    exact at_below b (Nat.le_refl _) hen
  · rw [List.mem_singleton.1 ha, List.mem_singleton.1 hc]
  · exact List.pairwise_singleton _ _
  · rw [List.mem_singleton.1 ha]
    exact hx
  · simp
theorem perm_one {l : List Hd} {a : Hd} (h : l.Perm [a]) : l = [a] := List.perm_singleton.1 h
set_option maxRecDepth 100000 in
theorem first_any (w : World) (pb : Nat) (x : J) (s : ByteArray) (hs : s.data.toList = x.tn) (hz : s.size ≤ 281474976710656) (hx : x.ok = true) (hc : w.heap[pb]? = some (.cells #[.map none, .map none] 54 (0, 0))) :
    Calls Try.prog 30 #[.pointer (some ⟨pb, 0, none⟩), .agg #[.int .i64 x.job, .string s, .int .i64 x.pr]] w fun e w' => e = .returned (.tuple #[]) ∧ ∃ S', Que w' S' pb [x] 1 ∧ Kp (· = pb) w w' ∧ ∀ k, S' k → k = pb ∨ w.heap.size ≤ k := by
  have es : s = ⟨⟨x.tn⟩⟩ := by rw [← hs]
  have hzm : s.size ≤ maxLen := by unfold maxLen; omega
  have hpb := (Array.getElem?_eq_some_iff.1 hc).1
  have emp : ∀ (W : World) (b0 eb : Nat), A0 w W (· = pb) (.map #[] 0) pb (w.heap.size + 1) (w.heap.size + 2) b0 eb x.job x.pr s m0 → W.ownsMap Try.prog 9 pE (w.heap.size + 2) 0 m0 := fun W b0 eb h => by
    have q := World.ownsMap_made ((w.alloc (.map #[] 0)).alloc (.map #[] 0)) Try.prog 9 pE
    have n0 := new0 (w := (w.alloc (.map #[] 0)).alloc (.map #[] 0)) (o := .map #[] 0)
    have e : ((w.alloc (.map #[] 0)).alloc (.map #[] 0)).heap.size = w.heap.size + 2 := by rw [World.size_alloc, World.size_alloc]
    rw [e] at q n0
    exact keepMap q (h.f2.trans n0.symm)
  refine add_nil w pb x.job x.pr s m0 (.pointer none) (ky x) 0 (· = pb) (.map #[] 0) (fun W _ w6 => Below W.heap.size W w6) _ hz (wf_ok hx) (by unfold Hid; rw [size0]; unfold maxLen; decide) (fun _ _ _ h => by cases h) hc (w.heap.size + 1) (w.heap.size + 2) rfl rfl rfl rfl rfl ?_ ?_ ?_ ?_
  · intro W b0 eb h
    have hkey := keyOf_string_mk (P := Try.prog) Try.underlying9 hzm
    obtain ⟨v, ps, hr, hv⟩ := (emp W b0 eb h).lookup law9 Try.underlying52 (zero72 W) (zd := .nil) (zp := []) rfl hkey
    rw [hr]
    rw [pE_nil hv]
  · intro W b0 eb h
    have hen := h.en
    rw [es] at hen
    exact key_any W ⟨x, 0, eb⟩ hen hx
  · intro W b0 eb h
    refine (insert_nil (ky x) W).mono fun e w' ⟨he, hb⟩ => ⟨he, hb, fun q o hq ho => at_below hb (Nat.le_refl _) ho⟩
  · intro W b0 eb w6 h hb
    have hW := one_W hs h hx hb
    have hen := at_below hb (Nat.le_refl _) h.en
    refine (renew_raw w6 pb (w.heap.size + 2) eb 0 _ x.job x.pr s (ky x) (ky_ok hx) m0 hW.cell hzm ⟨keepMap (emp W b0 eb h) (hb.block _ (emp W b0 eb h).lt), by unfold maxLen; decide⟩ hen (fun V bV => ?_) (fun V bV => ?_)).mono ?_
    · have := line_any (hW.below bV) x.tn
      rw [← es] at this
      refine this.mono ?_
      rintro e w' ⟨p, n, c, L, he, hn, hp, -, hr, hb'⟩
      have hL : L = [⟨x, 0, eb⟩] := by
        refine perm_one (hp.trans ?_)
        simp
      subst hL
      obtain ⟨g, rfl, hg⟩ := hr 0 _ rfl
      subst hn
      exact ⟨g, c, he, hg, hb'⟩
    · have hen' := at_below bV (Nat.le_refl _) hen
      rw [es] at hen'
      exact key_any V ⟨x, 0, eb⟩ hen' hx
    · rintro e w9 ⟨he, S', hR⟩
      refine ⟨he, ?_⟩
      have hsz := hb.size
      have hlp := hW.lt
      have hlm : w.heap.size + 1 < w6.heap.size := hW.wm.lt
      have hl2 : w.heap.size + 2 < w6.heap.size := by have := (emp W b0 eb h).lt; omega
      have hle : eb < w6.heap.size := (Array.getElem?_eq_some_iff.1 hen).1
      have n1 : pb ≠ w.heap.size + 2 := by omega
      have n3 : eb ≠ w.heap.size + 2 := fun e => by have h1 := h.f2; rw [← e, h.en] at h1; cases h1
      have hk9 : ∀ q, q < w6.heap.size → q ≠ w.heap.size + 2 → w9.heap[q]? = w6.heap[q]? := fun q hq hn => hR.kp.block q hq hn
      have hW9 : QW w9 pb (some (w.heap.size + 1)) (some (w.heap.size + 2)) [⟨x, 0, eb⟩] := hW.keep fun q hq => by
        rcases hq with rfl | hq | ⟨a, ha, rfl⟩
        · exact hk9 _ hlp n1
        · rw [← Option.some.inj hq]; exact hk9 _ hlm (by omega)
        · rw [List.mem_singleton.1 ha]; exact hk9 _ hle n3
      refine ⟨fun q => q = pb ∨ (w.heap.size ≤ q ∧ q < w9.heap.size), ⟨⟨fun q => if w6.heap.size ≤ q then some x.tn else none, some (w.heap.size + 1), some (w.heap.size + 2), [⟨x, 0, eb⟩], [⟨x.tn, w6.heap.size, Ct.nil.put 0 (ky x), 1, 1, S'⟩], ⟨hW9, ⟨?_, ?_, List.pairwise_singleton _ _, ?_, ?_, ?_, ?_, ?_, ?_, by simp⟩, (fun q => by cases q), ?_, ?_⟩, List.Perm.refl _, List.pairwise_singleton _ _, ?_⟩, ?_⟩, ?_, ?_⟩
      · have := hR.mp
        rw [hs] at this
        exact this
      · intro y hy
        rw [List.mem_singleton.1 hy]
        exact ⟨hR.hc, Nat.le_refl _⟩
      · intro y hy z k
        rw [List.mem_singleton.1 hy]
        show (if z = ((0 : Nat) : Int) then some (ky x) else none) = some k ↔ _
        constructor
        · intro q
          split at q
          · rename_i e
            exact ⟨_, List.mem_singleton.2 rfl, rfl, e.symm, Option.some.inj q⟩
          · cases q
        · rintro ⟨a, ha, -, h2, h3⟩
          rw [List.mem_singleton.1 ha] at h2 h3
          rw [if_pos h2.symm, ← h3]
      · intro a ha c hc' _ _
        rw [List.mem_singleton.1 ha, List.mem_singleton.1 hc']
      · intro a ha
        rw [List.mem_singleton.1 ha]
        exact ⟨_, List.mem_singleton.2 rfl, rfl⟩
      · intro y hy
        rw [List.mem_singleton.1 hy]
        simp
      · intro y hy
        rw [List.mem_singleton.1 hy]
        show (1 : Nat) ≠ 0
        decide
      · intro y hy k hk
        rw [List.mem_singleton.1 hy] at hk ⊢
        exact if_pos (hR.fp k hk)
      · intro q hq
        rw [← Option.some.inj hq]
        exact ⟨_, rfl, by omega⟩
      · intro q hq
        refine if_neg ?_
        rcases hq with rfl | hq | hq | ⟨a, ha, rfl⟩
        · omega
        · rw [← Option.some.inj hq]; omega
        · rw [← Option.some.inj hq]; omega
        · rw [List.mem_singleton.1 ha]
          show ¬ w6.heap.size ≤ eb
          omega
      · intro q hq
        have h9 := hR.kp.size
        rcases hq with (rfl | hq | hq | ⟨a, ha, rfl⟩) | ⟨y, hy, hq⟩
        · exact .inl rfl
        · rw [← Option.some.inj hq]; right; omega
        · rw [← Option.some.inj hq]; right; omega
        · rw [List.mem_singleton.1 ha]
          have := h.le
          right
          show w.heap.size ≤ eb ∧ eb < w9.heap.size
          omega
        · rw [List.mem_singleton.1 hy] at hq
          have h1 := hR.fp q hq
          have h2 := hR.hc.h.lt q hq
          have := h.kp.size
          right
          omega
      · intro q hq
        have h9 := hR.kp.size
        rcases hq with rfl | hq
        · omega
        · exact hq.2
      · refine (h.kp.trans (Kp.of_below hb (S := fun _ => False)) (fun _ _ e => e.elim)).trans hR.kp fun q hq e => ?_
        have e' : q = w.heap.size + 2 := e
        omega
      · intro q hq
        rcases hq with hq | hq
        · exact .inl hq
        · exact .inr hq.1
end Go.Proofs.Ythlbeofonbbbdaa
