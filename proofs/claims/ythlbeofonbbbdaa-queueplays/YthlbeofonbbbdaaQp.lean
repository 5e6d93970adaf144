/-
  add, for a tenant that has no heap yet; Push.
-/
import Derived.Test.YthlbeofonbbbdaaQo
namespace Go.Proofs.Ythlbeofonbbbdaa
open Go.RowKit Go.Maps Go.WideMaps

theorem add_B {w : World} {ow : Nat → Option (List UInt8)} {pb m m2 N : Nat} {l : List Hd} {q : List Hq} {x : J} (h : QAt w ow pb (some m) (some m2) l q N) (hne : m2 ≠ m) (hx : x.ok = true) (hz : x.tn.length ≤ 281474976710656) (hno : ∀ a ∈ l, a.j.job ≠ x.job) (hnf : fndN Hq.nm x.tn q = none) (hq6 : q.length < 1000000) :
    Calls Try.prog 30 #[.pointer (some ⟨pb, 0, none⟩), .agg #[.int .i64 x.job, .string ⟨⟨x.tn⟩⟩, .int .i64 x.pr]] w fun e w' => e = .returned (.tuple #[]) ∧ AddR w w' pb (some m) (some m2) l q N x := by
  obtain ⟨M, hM⟩ := h.W.wm
  have hmh : w.ownsMap Try.prog 9 pE m2 q.length (mapH q) := h.H.hm
  obtain ⟨o2, h2, ho2⟩ : ∃ o2, w.heap[m2]? = some o2 ∧ ∀ cs t f, o2 ≠ .cells cs t f := by
    obtain ⟨es, clock, hm, -⟩ := hmh
    exact ⟨_, hm, fun _ _ _ e => by cases e⟩
  have hnF : ∀ z ∈ q, ∀ k, Fp z.hb z.S k → k < w.heap.size := fun z hz' k hk => (h.H.hp z hz').1.h.lt k hk
  have hpF : ∀ z ∈ q, ∀ k, Oq pb (some m) (some m2) l k → ¬ Fp z.hb z.S k := fun z hz' k hk hf => by
    have := h.H.oh z hz' k hf
    rw [h.oo k hk] at this
    cases this
  have hml : Maps.size M < maxLen := by rw [hM.n]; have := h.W.len; unfold maxLen; omega
  have hzm : (⟨⟨x.tn⟩⟩ : ByteArray).size ≤ maxLen := by show x.tn.length ≤ _; unfold maxLen; omega
  have hnt : ∀ a ∈ l, a.j.tn ≠ x.tn := fun a ha e => by
    obtain ⟨z, hz1, hz2⟩ := h.H.has a ha
    exact fndN_none hnf z hz1 (hz2.trans e)
  refine add_no w pb m m2 x.job x.pr ⟨⟨x.tn⟩⟩ M (.pointer none) (ky x) 0 (· = m) o2 (fun W _ w6 => Below W.heap.size W w6) (fun w' => AddR w w' pb (some m) (some m2) l q N x) hz (wf_ok hx) hml ho2 h.W.cell hM.o h2 hne rfl ?_ ?_ ?_ ?_
  · intro W b0 eb A
    have := look_H (w := W) (mh := some m2) (q := q) (keepMap hmh (A.f2.trans h2.symm)) ⟨⟨x.tn⟩⟩ hzm
    rw [show (⟨⟨x.tn⟩⟩ : ByteArray).data.toList = x.tn from rfl, hnf] at this
    exact this
  · intro W b0 eb A
    exact key_any W ⟨x, 0, eb⟩ A.en hx
  · intro W b0 eb A
    exact (insert_nil (ky x) W).mono fun e w' ⟨he, hb⟩ => ⟨he, hb, fun q o hq ho => at_below hb (Nat.le_refl _) ho⟩
  · intro W b0 eb w6 A hb
    have hW := (add_W h.W hM (fun k e => e) hx hno A).below hb
    have hen := at_below hb (Nat.le_refl _) A.en
    have m6 : w6.ownsMap Try.prog 9 pE m2 q.length (mapH q) := keepMap hmh ((at_below hb (Nat.le_refl _) A.f2).trans h2.symm)
    have hft : ((l ++ [(⟨x, 0, eb⟩ : Hd)]).filter fun a => a.j.tn == x.tn) = [⟨x, 0, eb⟩] := by
      rw [List.filter_append, List.filter_eq_nil_iff.2 fun a ha => by simpa using hnt a ha]
      simp
    refine (renew_raw w6 pb m2 eb q.length _ x.job x.pr ⟨⟨x.tn⟩⟩ (ky x) (ky_ok hx) (mapH q) hW.cell hzm ⟨m6, by unfold maxLen; omega⟩ hen (fun V bV => ?_) (fun V bV => ?_)).mono ?_
    · refine (line_any (hW.below bV) x.tn).mono ?_
      rintro e w' ⟨p, n, c, L, he, hn, hp, -, hr, hb'⟩
      rw [hft] at hp
      have hL := perm_one hp
      subst hL
      obtain ⟨g, rfl, hg⟩ := hr 0 _ rfl
      subst hn
      exact ⟨g, c, he, hg, hb'⟩
    · exact key_any V ⟨x, 0, eb⟩ (at_below bV (Nat.le_refl _) hen) hx
    · rintro e w9 ⟨he, S', hR⟩
      refine ⟨he, ?_⟩
      have hle := A.le
      have hlE : eb < w6.heap.size := (Array.getElem?_eq_some_iff.1 hen).1
      have hsW := A.kp.size
      have hs6 := hb.size
      have hs9 := hR.kp.size
      have ltO : ∀ k, Oq pb (some m) (some m2) l k → k < w.heap.size := fun k hk => h.lt (.inl hk)
      have hk9 : ∀ k, k < w6.heap.size → k ≠ m2 → w9.heap[k]? = w6.heap[k]? := fun k hk hn => hR.kp.block k hk hn
      have hm2l := ltO m2 (.inr (.inr (.inl rfl)))
      have hW9 : QW w9 pb (some m) (some m2) (l ++ [(⟨x, 0, eb⟩ : Hd)]) := hW.keep fun k hk => by
        rcases hk with rfl | hk | ⟨a, ha, rfl⟩
        · exact hk9 _ hW.lt (cells_map m6 hW.cell)
        · obtain rfl := Option.some.inj hk
          exact hk9 _ hW.wm.lt (fun e => hne e.symm)
        · exact hk9 _ (hW.blt ha) (cells_map m6 (hW.blk a ha))
      have hmp : w9.ownsMap Try.prog 9 pE m2 (q.length + 1) (mapH (insN Hq.nm ⟨x.tn, w6.heap.size, Ct.nil.put 0 (ky x), 1, 1, S'⟩ q)) := by
        have e := mapH_put q x.tn ⟨x.tn, w6.heap.size, Ct.nil.put 0 (ky x), 1, 1, S'⟩ rfl
        rw [drpN_none hnf] at e
        rw [← e]
        exact hR.mp
      have mq : ∀ z' ∈ insN Hq.nm ⟨x.tn, w6.heap.size, Ct.nil.put 0 (ky x), 1, 1, S'⟩ q, z' = ⟨x.tn, w6.heap.size, Ct.nil.put 0 (ky x), 1, 1, S'⟩ ∨ (z' ∈ q ∧ z'.nm ≠ x.tn) := fun z' hz' => (mem_insN.1 hz').imp id fun q1 => ⟨q1, fndN_none hnf z' q1⟩
      refine ⟨fun k => if k < w.heap.size then ow k else if w6.heap.size ≤ k then some x.tn else none, some m, some m2, l ++ [(⟨x, 0, eb⟩ : Hd)], insN Hq.nm ⟨x.tn, w6.heap.size, Ct.nil.put 0 (ky x), 1, 1, S'⟩ q, ⟨hW9, ⟨?_, fun z' hz' => ?_, ?_, fun z' hz' t k => ?_, fun a ha b hb e1 e2 => ?_, fun a ha => ?_, fun z' hz' => ?_, fun z' hz' => ?_, fun z' hz' k hk => ?_, by rw [insN_length]; omega⟩, (fun e => by cases e), h.ns, fun k hk => ?_⟩, ?_, ?_, fun k hk => ?_⟩
      · show World.ownsMap _ _ _ _ _ _ _
        rw [insN_length]
        exact hmp
      · rcases mq z' hz' with rfl | ⟨hz1, hz2⟩
        · exact ⟨hR.hc, by show 1 ≤ N + 1; omega⟩
        · obtain ⟨c1, c2'⟩ := h.H.hp z' hz1
          refine ⟨c1.keep fun k hk => ?_, by omega⟩
          have h1 := hnF z' hz1 k hk
          have hkm : k ≠ m2 := fun e => hpF z' hz1 k (.inr (.inr (.inl (by rw [e])))) hk
          exact (hk9 k (by omega) hkm).trans ((hb.block k (by omega)).trans (heap_W h (fun k e => e) A.kp hz1 k hk))
      · exact srtN_ins h.H.srt fun y hy => fndN_none hnf y hy
      · rcases mq z' hz' with rfl | ⟨hz1, hz2⟩
        · show (if t = ((0 : Nat) : Int) then some (ky x) else none) = some k ↔ _
          constructor
          · intro e
            split at e
            · rename_i e'
              exact ⟨_, List.mem_append_right _ (List.mem_singleton.2 rfl), rfl, e'.symm, Option.some.inj e⟩
            · cases e
          · rintro ⟨a, ha, e1, e2, e3⟩
            rcases List.mem_append.1 ha with qa | qa
            · exact absurd e1 (hnt a qa)
            · rw [List.mem_singleton.1 qa] at e2 e3
              rw [if_pos e2.symm, ← e3]
        · rw [h.H.ct z' hz1 t k]
          constructor
          · rintro ⟨a, ha, r⟩; exact ⟨a, List.mem_append_left _ ha, r⟩
          · rintro ⟨a, ha, e1, r⟩
            rcases List.mem_append.1 ha with qa | qa
            · exact ⟨a, qa, e1, r⟩
            · rw [List.mem_singleton.1 qa] at e1; exact absurd e1.symm hz2
      · rcases List.mem_append.1 ha with qa | qa <;> rcases List.mem_append.1 hb with qb | qb
        · exact h.H.hu a qa b qb e1 e2
        · rw [List.mem_singleton.1 qb] at e1; exact absurd e1 (hnt a qa)
        · rw [List.mem_singleton.1 qa] at e1; exact absurd e1.symm (hnt b qb)
        · rw [List.mem_singleton.1 qa, List.mem_singleton.1 qb]
      · rcases List.mem_append.1 ha with qa | qa
        · obtain ⟨z, hz1, hz2⟩ := h.H.has a qa
          exact ⟨z, mem_insN.2 (.inr hz1), hz2⟩
        · rw [List.mem_singleton.1 qa]
          exact ⟨_, mem_insN.2 (.inl rfl), rfl⟩
      · rcases mq z' hz' with rfl | ⟨hz1, hz2⟩
        · show 1 = _
          rw [hft]
          rfl
        · rw [List.filter_append, List.length_append, ← h.H.cnt z' hz1]
          have : ¬ x.tn = z'.nm := fun e => hz2 e.symm
          simp [this]
      · rcases mq z' hz' with rfl | ⟨hz1, hz2⟩
        · exact Nat.succ_ne_zero _
        · exact h.H.ne z' hz1
      · rcases mq z' hz' with rfl | ⟨hz1, hz2⟩
        · show (if k < w.heap.size then ow k else if w6.heap.size ≤ k then some x.tn else none) = some x.tn
          have := hR.fp k hk
          rw [if_neg (by omega), if_pos this]
        · show (if k < w.heap.size then ow k else if w6.heap.size ≤ k then some x.tn else none) = some z'.nm
          rw [if_pos (hnF z' hz1 k hk)]
          exact h.H.oh z' hz1 k hk
      · show (if k < w.heap.size then ow k else if w6.heap.size ≤ k then some x.tn else none) = none
        by_cases hkw : Oq pb (some m) (some m2) l k
        · rw [if_pos (ltO k hkw)]; exact h.oo k hkw
        · have hke : k = eb := by
            rcases hk with q1 | q1 | q1 | ⟨a, ha, q1⟩
            · exact absurd (.inl q1) hkw
            · exact absurd (.inr (.inl q1)) hkw
            · exact absurd (.inr (.inr (.inl q1))) hkw
            · rcases List.mem_append.1 ha with qa | qa
              · exact absurd (.inr (.inr (.inr ⟨a, qa, q1⟩))) hkw
              · rw [List.mem_singleton.1 qa] at q1; exact q1.symm
          rw [hke, if_neg (by omega), if_neg (by omega)]
      · rw [List.map_append]
        exact List.perm_append_singleton x _
      · refine ((A.kp.mono (S' := Owq pb (some m) (some m2) l q) fun k _ e => .inl (.inr (.inl (by rw [show k = m from e])))).trans (Kp.of_below hb (S := fun _ => False)) fun k _ e => e.elim).trans hR.kp fun k hk e => ?_
        exact .inl (.inr (.inr (.inl (by rw [show k = m2 from e]))))
      · rcases hk with (q1 | q1 | q1 | ⟨a, ha, q1⟩) | ⟨z', hz', q1⟩
        · exact .inl (.inl (.inl q1))
        · exact .inl (.inl (.inr (.inl q1)))
        · exact .inl (.inl (.inr (.inr (.inl q1))))
        · rcases List.mem_append.1 ha with qa | qa
          · exact .inl (.inl (.inr (.inr (.inr ⟨a, qa, q1⟩))))
          · rw [List.mem_singleton.1 qa] at q1
            have q1' : eb = k := q1
            right; omega
        · rcases mq z' hz' with rfl | ⟨hz1, hz2⟩
          · have := hR.fp k q1
            right; omega
          · exact .inl (.inr ⟨z', hz1, q1⟩)
end Go.Proofs.Ythlbeofonbbbdaa
