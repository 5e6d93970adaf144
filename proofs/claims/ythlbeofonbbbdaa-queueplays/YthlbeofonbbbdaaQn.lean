/-
  A waiter more: what the queue's two sides are behind it.
-/
import Derived.Test.YthlbeofonbbbdaaQm
namespace Go.Proofs.Ythlbeofonbbbdaa
open Go.RowKit Go.Maps Go.WideMaps

theorem cells_map {w : World} {m n : Nat} {kt : TypeId} {M : DataW Nat} (h : w.ownsMap Try.prog kt pE m n M) {b : Nat} {cs : Array Value} {t : TypeId} {f : Nat × Nat} (hb : w.heap[b]? = some (.cells cs t f)) : b ≠ m := fun e => by
  obtain ⟨es, clock, hm, -⟩ := h
  rw [← e, hb] at hm
  cases hm
theorem jobs_len {l : List Hd} (hn : NJ (l.map Hd.j)) (ho : ∀ a ∈ l, a.j.ok = true) : l.length ≤ 101 := by
  have h1 : (l.map fun a => a.j.job.toNat).Nodup := by
    unfold NJ at hn
    rw [List.pairwise_map] at hn
    refine List.pairwise_map.2 (List.Pairwise.imp_of_mem (fun {a b} ha hb hab e => hab ?_) hn)
    have a1 := ok_pr (ho a ha)
    have b1 := ok_pr (ho b hb)
    omega
  have h2 := nd_len h1 (l' := List.range 101) fun y hy => by
    obtain ⟨a, ha, rfl⟩ := List.mem_map.1 hy
    have a1 := ok_pr (ho a ha)
    exact List.mem_range.2 (by omega)
  simpa using h2
section
variable {w W : World} {F : Nat → Prop} {o2 : Obj} {pb m m2 b0 eb N : Nat} {l : List Hd} {x : J} {M : DataW Nat} {ow : Nat → Option (List UInt8)} {q : List Hq}
/-- the waiters' side -/
theorem add_W (h : QW w pb (some m) (some m2) l) (hM : MI w m l M) (hF : ∀ k, F k → k = m) (hx : x.ok = true) (hno : ∀ a ∈ l, a.j.job ≠ x.job) (A : A0 w W F o2 pb m m2 b0 eb x.job x.pr ⟨⟨x.tn⟩⟩ M) : QW W pb (some m) (some m2) (l ++ [(⟨x, 0, eb⟩ : Hd)]) := by
  have hnj : NJ ((l ++ [(⟨x, 0, eb⟩ : Hd)]).map Hd.j) := by
    rw [List.map_append]
    refine List.pairwise_append.2 ⟨h.nj, List.pairwise_singleton _ _, fun a ha b hb => ?_⟩
    obtain ⟨c, hc, rfl⟩ := List.mem_map.1 ha
    rw [List.mem_singleton.1 hb]
    exact hno c hc
  have hok : ∀ a ∈ l ++ [(⟨x, 0, eb⟩ : Hd)], a.j.ok = true := fun a ha => by
    rcases List.mem_append.1 ha with q | q
    · exact h.ok a q
    · rw [List.mem_singleton.1 q]; exact hx
  have hblk : ∀ a ∈ l ++ [(⟨x, 0, eb⟩ : Hd)], W.heap[a.b]? = some (.cells (hC a) 76 (0, 0)) := fun a ha => by
    rcases List.mem_append.1 ha with q | q
    · have hb := h.blk a q
      exact (A.kp.block a.b (h.blt q) fun e => cells_map hM.o hb (hF _ e)).trans hb
    · rw [List.mem_singleton.1 q]; exact A.en
  refine ⟨A.pc, ⟨M.put (.int .i64 x.job) (.held eb), tight A.mp, ?_, fun y z => ?_⟩, hblk, fun a ha c hc e => ?_, hnj, hok, by have := jobs_len hnj hok; omega⟩
  · have hh : Maps.has M (.int .i64 x.job) = false := has_false_of_atKey fun z => by
      rw [hM.a]
      cases q : aJ l x.job with
      | none => rfl
      | some b => obtain ⟨a, ha, e, -⟩ := aJ_some q; exact absurd e (hno a ha)
    rw [size_put (hM.o.tidy law2), hh, hM.n]
    simp
  · by_cases e : y = x.job
    · subst e
      rw [atKey_put_same hM.o.isMap (isKey _)]
      have : aJ (l ++ [(⟨x, 0, eb⟩ : Hd)]) x.job = some eb := by
        unfold aJ
        rw [List.find?_append, show l.find? (fun a => decide (a.j.job = x.job)) = none from List.find?_eq_none.2 fun a ha => by simpa using hno a ha]
        simp
      rw [this]
      rfl
    · rw [atKey_put_other (lit_ne e), hM.a]
      congr 1
      unfold aJ
      rw [List.find?_append]
      have : ¬ x.job = y := fun q => e q.symm
      cases hq : l.find? (fun a => decide (a.j.job = y)) <;> simp [this]
  · rcases List.mem_append.1 ha with qa | qa <;> rcases List.mem_append.1 hc with qc | qc
    · exact h.inj a qa c qc e
    · rw [List.mem_singleton.1 qc] at e
      have := h.blt qa
      have := A.le
      have e' : a.b = eb := e
      omega
    · rw [List.mem_singleton.1 qa] at e
      have := h.blt qc
      have := A.le
      have e' : eb = c.b := e
      omega
    · rw [List.mem_singleton.1 qa, List.mem_singleton.1 qc]
/-- the heaps' blocks are as they were -/
theorem heap_W (h : QAt w ow pb (some m) (some m2) l q N) (hF : ∀ k, F k → k = m) (hk : Kp F w W) {y : Hq} (hy : y ∈ q) : ∀ k, Fp y.hb y.S k → W.heap[k]? = w.heap[k]? := fun k hk' => hk.block k ((h.H.hp y hy).1.h.lt k hk') fun e => by
  have h1 := h.H.oh y hy k hk'
  rw [hF k e, h.oo m (.inr (.inl rfl))] at h1
  cases h1
end
end Go.Proofs.Ythlbeofonbbbdaa
