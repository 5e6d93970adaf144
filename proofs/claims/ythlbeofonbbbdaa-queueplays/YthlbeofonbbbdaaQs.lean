/-
  Remove on any queue.
-/
import Derived.Test.YthlbeofonbbbdaaQr
namespace Go.Proofs.Ythlbeofonbbbdaa
open Go.RowKit Go.Maps Go.WideMaps

/-- all but one -/
def oH (x : Int) (l : List Hd) : List Hd := l.filter fun b => decide (b.j.job ≠ x)
theorem mem_oH {x : Int} {l : List Hd} {b : Hd} : b ∈ oH x l ↔ b ∈ l ∧ b.j.job ≠ x := by simp [oH, List.mem_filter]
theorem oH_map (x : Int) (l : List Hd) : (oH x l).map Hd.j = dJ x (l.map Hd.j) := by
  unfold oH dJ
  rw [List.filter_map]
  rfl
theorem one_out {a : Hd} : ∀ {l : List Hd}, (l.Pairwise fun a b => a.j.job ≠ b.j.job) → a ∈ l → (oH a.j.job l).length + 1 = l.length
  | [], _, ha => nomatch ha
  | z :: r, hn, ha => by
    have h1 := List.pairwise_cons.1 hn
    unfold oH
    rcases List.mem_cons.1 ha with rfl | ha'
    · rw [List.filter_cons_of_neg (by simp), List.filter_eq_self.2 fun b hb => by simpa using fun e => h1.1 b hb e.symm]
      rfl
    · have := one_out h1.2 ha'
      unfold oH at this
      rw [List.filter_cons_of_pos (by simpa using h1.1 a ha')]
      simp only [List.length_cons]
      omega
theorem oH_ten (x : Int) (t : List UInt8) (l : List Hd) : (oH x l).filter (fun a => a.j.tn == t) = oH x (l.filter fun a => a.j.tn == t) := by
  unfold oH
  rw [List.filter_filter, List.filter_filter]
  congr 1
  funext b
  exact Bool.and_comm _ _
section
variable {w w' : World} {ow : Nat → Option (List UInt8)} {pb m m2 N : Nat} {l : List Hd} {q q' : List Hq} {a : Hd} {M : DataW Nat} {y : Hq} {S' : HS}
theorem rem_W (h : QW w pb (some m) (some m2) l) (hM : MI w m l M) (ha : a ∈ l) (hp : w'.heap[pb]? = w.heap[pb]?) (hl : ∀ b ∈ l, w'.heap[b.b]? = w.heap[b.b]?) {n : Nat} (ho : w'.ownsMap Try.prog 2 pE m n (M.del (.int .i64 a.j.job))) : QW w' pb (some m) (some m2) (oH a.j.job l) := by
  have hn : l.Pairwise fun a b => a.j.job ≠ b.j.job := by
    have := h.nj
    unfold NJ at this
    rw [List.pairwise_map] at this
    exact this
  refine ⟨hp.trans h.cell, ⟨M.del (.int .i64 a.j.job), tight ho, ?_, fun x z => ?_⟩, fun b hb => (hl b (mem_oH.1 hb).1).trans (h.blk b (mem_oH.1 hb).1), fun b hb c hc e => h.inj b (mem_oH.1 hb).1 c (mem_oH.1 hc).1 e, ?_, fun b hb => h.ok b (mem_oH.1 hb).1, ?_⟩
  · have e1 := size_del (k := .int .i64 a.j.job) (hM.o.tidy law2)
    have e2 : Maps.has M (.int .i64 a.j.job) = true := has_true_of_atKey (y := .held a.b) fun z => by rw [hM.a, h.at ha]; rfl
    rw [e2, hM.n] at e1
    have e3 := one_out hn ha
    simp at e1
    omega
  · by_cases e : x = a.j.job
    · subst e
      rw [atKey_del_same]
      have : aJ (oH a.j.job l) a.j.job = none := by
        unfold aJ
        rw [List.find?_eq_none.2 fun b hb => by simpa using (mem_oH.1 hb).2]
        rfl
      rw [this]
      rfl
    · rw [atKey_del_other (lit_ne e), hM.a]
      congr 1
      unfold aJ oH
      rw [List.find?_filter]
      congr 2
      funext b
      by_cases e2 : b.j.job = x
      · simp [e2, e]
      · simp [e2]
  · rw [oH_map]
    exact nj_dJ h.nj
  · exact Nat.le_trans (List.length_filter_le _ _) h.len
/-- what stays of a queue -/
def RemR (w w' : World) (pb : Nat) (mw mh : Option Nat) (l : List Hd) (q : List Hq) (N : Nat) (x : Int) : Prop := ∃ ow' q', QAt w' ow' pb mw mh (oH x l) q' N ∧ Kp (Owq pb mw mh l q) w w' ∧ ∀ k, Owq pb mw mh (oH x l) q' k → Owq pb mw mh l q k ∨ w.heap.size ≤ k
theorem rem_Q (h : QAt w ow pb (some m) (some m2) l q N) (hM : MI w m l M) (ha : a ∈ l) (hy : y ∈ q) (hyn : y.nm = a.j.tn) {n : Nat} (ho : w'.ownsMap Try.prog 2 pE m n (M.del (.int .i64 a.j.job)))
    (mq : ∀ z' ∈ q', (z' = ⟨y.nm, y.hb, y.C.del a.h, y.g, y.n - 1, S'⟩ ∧ y.n - 1 ≠ 0 ∧ Hc w' y.hb (y.C.del a.h) y.g (y.n - 1) S') ∨ (z' ∈ q ∧ z'.nm ≠ a.j.tn)) (hm : MH w' (some m2) q') (hs : SrtN Hq.nm q') (hh : ∀ b ∈ oH a.j.job l, ∃ z ∈ q', z.nm = b.j.tn) (hq : q'.length ≤ 1000000)
    (hk : Kp (fun k => Fp y.hb y.S k ∨ k = m ∨ k = m2) w w') (hf : ∀ k, Fp y.hb S' k → Fp y.hb y.S k ∨ w.heap.size ≤ k) : RemR w w' pb (some m) (some m2) l q N a.j.job := by
  have hmh : w.ownsMap Try.prog 9 pE m2 q.length (mapH q) := h.H.hm
  have hnF : ∀ z ∈ q, ∀ k, Fp z.hb z.S k → k < w.heap.size := fun z hz' k hk => (h.H.hp z hz').1.h.lt k hk
  have hpF : ∀ z ∈ q, ∀ k, Oq pb (some m) (some m2) l k → ¬ Fp z.hb z.S k := fun z hz' k hk hf => by
    have := h.H.oh z hz' k hf
    rw [h.oo k hk] at this
    cases this
  have ltO : ∀ k, Oq pb (some m) (some m2) l k → k < w.heap.size := fun k hk => h.lt (.inl hk)
  have hn : l.Pairwise fun a b => a.j.job ≠ b.j.job := by
    have := h.W.nj
    unfold NJ at this
    rw [List.pairwise_map] at this
    exact this
  have atC : ∀ k cs t f, w.heap[k]? = some (.cells cs t f) → Oq pb (some m) (some m2) l k → w'.heap[k]? = w.heap[k]? := fun k cs t f hc hk' => hk.block k (ltO k hk') fun e => by
    rcases e with e | e | e
    · exact hpF y hy k hk' e
    · exact cells_map hM.o hc e
    · exact cells_map hmh hc e
  have sub : ∀ k, Oq pb (some m) (some m2) (oH a.j.job l) k → Oq pb (some m) (some m2) l k := fun k hk => by
    rcases hk with e | e | e | ⟨b, hb, e⟩
    · exact .inl e
    · exact .inr (.inl e)
    · exact .inr (.inr (.inl e))
    · exact .inr (.inr (.inr ⟨b, (mem_oH.1 hb).1, e⟩))
  have one : ∀ b ∈ l, b.j.job = a.j.job → b = a := fun b hb e => hd_one h.W hb ha e
  refine ⟨fun k => if k < w.heap.size then ow k else some a.j.tn, q', ⟨rem_W h.W hM ha (atC _ _ _ _ h.W.cell (.inl rfl)) (fun b hb => atC _ _ _ _ (h.W.blk b hb) (.inr (.inr (.inr ⟨b, hb, rfl⟩)))) ho, ⟨hm, fun z' hz' => ?_, hs, fun z' hz' t k => ?_, fun b hb c hc => h.H.hu b (mem_oH.1 hb).1 c (mem_oH.1 hc).1, hh, fun z' hz' => ?_, fun z' hz' => ?_, fun z' hz' k hk' => ?_, hq⟩, (fun e => by cases e), h.ns, fun k hk' => ?_⟩, ?_, fun k hk' => ?_⟩
  · rcases mq z' hz' with ⟨rfl, e1, e2⟩ | ⟨hz1, hz2⟩
    · exact ⟨e2, (h.H.hp y hy).2⟩
    · obtain ⟨c1, c2'⟩ := h.H.hp z' hz1
      refine ⟨c1.keep fun k hk' => hk.block k (hnF z' hz1 k hk') fun e => ?_, c2'⟩
      rcases e with e | e | e
      · have e1 := h.H.oh z' hz1 k hk'
        rw [h.H.oh y hy k e] at e1
        exact hz2 ((Option.some.inj e1).symm.trans hyn)
      · exact hpF z' hz1 k (.inr (.inl (by rw [e]))) hk'
      · exact hpF z' hz1 k (.inr (.inr (.inl (by rw [e])))) hk'
  · rcases mq z' hz' with ⟨rfl, e1, e2⟩ | ⟨hz1, hz2⟩
    · show (if t = (a.h : Int) then none else y.C t) = some k ↔ _
      constructor
      · intro e
        split at e
        · cases e
        · rename_i e'
          obtain ⟨b, hb, r1, r2, r3⟩ := (h.H.ct y hy t k).1 e
          exact ⟨b, mem_oH.2 ⟨hb, fun e3 => e' (by rw [one b hb e3] at r2; exact r2.symm)⟩, r1, r2, r3⟩
      · rintro ⟨b, hb, r1, r2, r3⟩
        obtain ⟨hb1, hb2⟩ := mem_oH.1 hb
        rw [if_neg fun e3 => hb2 (by
          have : b = a := h.H.hu b hb1 a ha (r1.trans hyn) (by omega)
          rw [this])]
        exact (h.H.ct y hy t k).2 ⟨b, hb1, r1, r2, r3⟩
    · rw [h.H.ct z' hz1 t k]
      constructor
      · rintro ⟨b, hb, r1, r⟩
        exact ⟨b, mem_oH.2 ⟨hb, fun e3 => hz2 (by rw [one b hb e3] at r1; exact r1.symm)⟩, r1, r⟩
      · rintro ⟨b, hb, r⟩
        exact ⟨b, (mem_oH.1 hb).1, r⟩
  · rw [oH_ten]
    rcases mq z' hz' with ⟨rfl, e1, e2⟩ | ⟨hz1, hz2⟩
    · show y.n - 1 = (oH a.j.job (l.filter fun b => b.j.tn == y.nm)).length
      have c1 := h.H.cnt y hy
      have c3 := one_out (a := a) (l := l.filter fun b => b.j.tn == y.nm) (hn.filter _) (List.mem_filter.2 ⟨ha, by simp [hyn]⟩)
      omega
    · rw [h.H.cnt z' hz1]
      have : oH a.j.job (l.filter fun b => b.j.tn == z'.nm) = l.filter fun b => b.j.tn == z'.nm := List.filter_eq_self.2 fun b hb => by
        obtain ⟨hb1, hb2⟩ := List.mem_filter.1 hb
        have hb3 : b.j.tn = z'.nm := by simpa using hb2
        refine decide_eq_true fun e3 => hz2 ?_
        rw [one b hb1 e3] at hb3
        exact hb3.symm
      rw [this]
  · rcases mq z' hz' with ⟨rfl, e1, e2⟩ | ⟨hz1, hz2⟩
    · exact e1
    · exact h.H.ne z' hz1
  · rcases mq z' hz' with ⟨rfl, e1, e2⟩ | ⟨hz1, hz2⟩
    · show (if k < w.heap.size then ow k else some a.j.tn) = some y.nm
      by_cases hlt : k < w.heap.size
      · rw [if_pos hlt]
        exact h.H.oh y hy k ((hf k hk').resolve_right (by omega))
      · rw [if_neg hlt, hyn]
    · show (if k < w.heap.size then ow k else some a.j.tn) = some z'.nm
      rw [if_pos (hnF z' hz1 k hk')]
      exact h.H.oh z' hz1 k hk'
  · show (if k < w.heap.size then ow k else some a.j.tn) = none
    rw [if_pos (ltO k (sub k hk'))]
    exact h.oo k (sub k hk')
  · refine hk.mono fun k _ e => ?_
    rcases e with e | e | e
    · exact .inr ⟨y, hy, e⟩
    · exact .inl (.inr (.inl (by rw [e])))
    · exact .inl (.inr (.inr (.inl (by rw [e]))))
  · rcases hk' with e | ⟨z', hz', e⟩
    · exact .inl (.inl (sub k e))
    · rcases mq z' hz' with ⟨rfl, e1, e2⟩ | ⟨hz1, hz2⟩
      · exact (hf k e).imp (fun e3 => .inr ⟨y, hy, e3⟩) id
      · exact .inl (.inr ⟨z', hz1, e⟩)
end
end Go.Proofs.Ythlbeofonbbbdaa
