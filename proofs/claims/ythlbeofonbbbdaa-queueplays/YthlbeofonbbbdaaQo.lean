/-
  add, for a tenant that has a heap.
-/
import Derived.Test.YthlbeofonbbbdaaQn
namespace Go.Proofs.Ythlbeofonbbbdaa
open Go.RowKit Go.Maps Go.WideMaps

theorem aJ_h (l : List Hd) (x : J) (g eb : Nat) (y : Int) : aJ (l ++ [(⟨x, g, eb⟩ : Hd)]) y = aJ (l ++ [(⟨x, 0, eb⟩ : Hd)]) y := by
  unfold aJ
  rw [List.find?_append, List.find?_append]
  cases hq : l.find? (fun a => decide (a.j.job = y)) with
  | some a => rfl
  | none => by_cases e : x.job = y <;> simp [e]
/-- the handle is written -/
theorem set_H {W w' : World} {pb g eb : Nat} {mw mh : Option Nat} {l : List Hd} {x : J} (h : QW W pb mw mh (l ++ [(⟨x, 0, eb⟩ : Hd)])) (hp : w'.heap[pb]? = W.heap[pb]?) (hm : ∀ m, mw = some m → w'.heap[m]? = W.heap[m]?) (hl : ∀ a ∈ l, w'.heap[a.b]? = W.heap[a.b]?) (he : w'.heap[eb]? = some (.cells (hC ⟨x, g, eb⟩) 76 (0, 0))) : QW w' pb mw mh (l ++ [(⟨x, g, eb⟩ : Hd)]) := by
  have hmap : (l ++ [(⟨x, g, eb⟩ : Hd)]).map Hd.j = (l ++ [(⟨x, 0, eb⟩ : Hd)]).map Hd.j := by simp
  have hmb : (l ++ [(⟨x, g, eb⟩ : Hd)]).map Hd.b = (l ++ [(⟨x, 0, eb⟩ : Hd)]).map Hd.b := by simp
  have hold : ∀ a ∈ l, a ∈ l ++ [(⟨x, 0, eb⟩ : Hd)] := fun a ha => List.mem_append_left _ ha
  have hnew : (⟨x, 0, eb⟩ : Hd) ∈ l ++ [(⟨x, 0, eb⟩ : Hd)] := List.mem_append_right _ (List.mem_singleton.2 rfl)
  refine ⟨hp.trans h.cell, ?_, fun a ha => ?_, fun a ha c hc e => ?_, by rw [hmap]; exact h.nj, fun a ha => ?_, by have := h.len; simp at this ⊢; omega⟩
  · have hw := h.wm
    unfold MW at *
    cases mw with
    | none => simp at hw
    | some m =>
      obtain ⟨M, h1, h2, h3⟩ := hw
      refine ⟨M, keepMap h1 (hm m rfl), by rw [h2]; simp, fun y z => ?_⟩
      rw [aJ_h]
      exact h3 y z
  · rcases List.mem_append.1 ha with q | q
    · exact (hl a q).trans (h.blk a (hold a q))
    · rw [List.mem_singleton.1 q]; exact he
  · rcases List.mem_append.1 ha with qa | qa <;> rcases List.mem_append.1 hc with qc | qc
    · exact h.inj a (hold a qa) c (hold c qc) e
    · rw [List.mem_singleton.1 qc] at e
      have e1 := h.inj a (hold a qa) _ hnew e
      have e2 := congrArg (fun z : Hd => z.j.job) e1
      have h3 := h.nj
      rw [List.map_append] at h3
      exact absurd e2 ((List.pairwise_append.1 h3).2.2 a.j (List.mem_map.2 ⟨a, qa, rfl⟩) x (by simp))
    · rw [List.mem_singleton.1 qa] at e
      have e1 := h.inj c (hold c qc) _ hnew e.symm
      have e2 := congrArg (fun z : Hd => z.j.job) e1
      have h3 := h.nj
      rw [List.map_append] at h3
      exact absurd e2 ((List.pairwise_append.1 h3).2.2 c.j (List.mem_map.2 ⟨c, qc, rfl⟩) x (by simp))
    · rw [List.mem_singleton.1 qa, List.mem_singleton.1 qc]
  · rcases List.mem_append.1 ha with q | q
    · exact h.ok a (hold a q)
    · rw [List.mem_singleton.1 q]
      show x.ok = true
      exact h.ok _ hnew
def chQ (t : List UInt8) (C : Ct) (g n : Nat) (S : HS) (z : Hq) : Hq := if z.nm = t then ⟨z.nm, z.hb, C, g, n, S⟩ else z
theorem chQ_nm (t : List UInt8) (C : Ct) (g n : Nat) (S : HS) (z : Hq) : (chQ t C g n S z).nm = z.nm := by unfold chQ; split <;> rfl
theorem chQ_hb (t : List UInt8) (C : Ct) (g n : Nat) (S : HS) (z : Hq) : (chQ t C g n S z).hb = z.hb := by unfold chQ; split <;> rfl
theorem mapH_ch (t : List UInt8) (C : Ct) (g n : Nat) (S : HS) (q : List Hq) : mapH (q.map (chQ t C g n S)) = mapH q := by
  unfold mapH
  rw [List.map_map]
  congr 1
  refine List.map_congr_left fun z _ => ?_
  simp only [Function.comp, chQ_nm, chQ_hb]
/-- what a step leaves, and whose it is -/
def AddR (w w' : World) (pb : Nat) (mw mh : Option Nat) (l : List Hd) (q : List Hq) (N : Nat) (x : J) : Prop := ∃ ow' mw' mh' l' q', QAt w' ow' pb mw' mh' l' q' (N + 1) ∧ (l'.map Hd.j).Perm (x :: l.map Hd.j) ∧ Kp (Owq pb mw mh l q) w w' ∧ ∀ k, Owq pb mw' mh' l' q' k → Owq pb mw mh l q k ∨ w.heap.size ≤ k
theorem add_A {w : World} {ow : Nat → Option (List UInt8)} {pb m m2 N : Nat} {l : List Hd} {q : List Hq} {x : J} {y : Hq} (h : QAt w ow pb (some m) (some m2) l q N) (hne : m2 ≠ m) (hx : x.ok = true) (hz : x.tn.length ≤ 281474976710656) (hno : ∀ a ∈ l, a.j.job ≠ x.job) (hy : y ∈ q) (hyn : y.nm = x.tn) (hN : N < 1048576) :
    Calls Try.prog 30 #[.pointer (some ⟨pb, 0, none⟩), .agg #[.int .i64 x.job, .string ⟨⟨x.tn⟩⟩, .int .i64 x.pr]] w fun e w' => e = .returned (.tuple #[]) ∧ AddR w w' pb (some m) (some m2) l q N x := by
  obtain ⟨M, hM⟩ := h.W.wm
  have hmh : w.ownsMap Try.prog 9 pE m2 q.length (mapH q) := h.H.hm
  obtain ⟨o2, h2, ho2⟩ : ∃ o2, w.heap[m2]? = some o2 ∧ ∀ cs t f, o2 ≠ .cells cs t f := by
    obtain ⟨es, clock, hm, -⟩ := hmh
    exact ⟨_, hm, fun _ _ _ e => by cases e⟩
  have hnF : ∀ z ∈ q, ∀ k, Fp z.hb z.S k → k < w.heap.size := fun z hz' k hk => (h.H.hp z hz').1.h.lt k hk
  have hpF : ∀ z ∈ q, ∀ k, Oq pb (some m) (some m2) l k → ¬ Fp z.hb z.S k := fun z hz' k hk hf => by
    have := h.H.oh z hz' k hf
    rw [h.oo k hk] at this
    cases this
  have hml : Maps.size M < maxLen := by rw [hM.n]; have := h.W.len; unfold maxLen; omega
  have hfy : fndN Hq.nm x.tn q = some y := by rw [← hyn]; exact fndN_self h.H.srt hy
  refine (add_ok w pb m m2 x.job x.pr ⟨⟨x.tn⟩⟩ M (ptr y.hb) (ky x) y.g (· = m) o2 (fun W eb w6 => ∃ S', Hc w6 y.hb (y.C.put y.g (ky x)) (y.g + 1) (y.n + 1) S' ∧ Chg y.hb y.S S' W w6) hz (wf_ok hx) hml ho2 h.W.cell hM.o h2 hne rfl ?_ ?_ ?_).mono ?_
  · intro W b0 eb A
    have := look_H (w := W) (mh := some m2) (q := q) (keepMap hmh (A.f2.trans h2.symm)) ⟨⟨x.tn⟩⟩ (by show x.tn.length ≤ _; unfold maxLen; omega)
    rw [show (⟨⟨x.tn⟩⟩ : ByteArray).data.toList = x.tn from rfl, hfy] at this
    exact this
  · intro W b0 eb A
    exact key_any W ⟨x, 0, eb⟩ A.en hx
  · intro W b0 eb A
    obtain ⟨hc, hg⟩ := h.H.hp y hy
    have hc' := hc.keep (heap_W h (fun k e => e) A.kp hy)
    refine (insert_C hc' (ky x) (ky_ok hx) (by omega)).mono fun e w6 ⟨he, S', h1, h2⟩ => ⟨he, ⟨S', h1, h2⟩, fun k o hk ho => ?_⟩
    refine (h2.kp.block k (Array.getElem?_eq_some_iff.1 ho).1 fun hf => ?_).trans ho
    rcases hk with hk | hk
    · have := hnF y hy k hf; omega
    · exact hpF y hy k (.inl hk) hf
  · rintro e w' ⟨he, W, b0, eb, w6, A, ⟨S', hC', hG⟩, rfl⟩
    refine ⟨he, ?_⟩
    obtain ⟨hc, hg⟩ := h.H.hp y hy
    have hle := A.le
    have hlE : eb < W.heap.size := (Array.getElem?_eq_some_iff.1 A.en).1
    have hsW := A.kp.size
    have at6 : ∀ k, k < W.heap.size → ¬ Fp y.hb y.S k → w6.heap[k]? = W.heap[k]? := hG.kp.block
    have atF : ∀ k, k ≠ eb → (w6.setCell ⟨eb, 3, none⟩ (.int .i64 y.g)).heap[k]? = w6.heap[k]? := fun k hk => Below.heap_setCell _ _ _ _ hk
    have ltO : ∀ k, Oq pb (some m) (some m2) l k → k < w.heap.size := fun k hk => h.lt (.inl hk)
    have atO : ∀ k, Oq pb (some m) (some m2) l k → (w6.setCell ⟨eb, 3, none⟩ (.int .i64 y.g)).heap[k]? = W.heap[k]? := fun k hk => by
      have := ltO k hk
      exact (atF k (by omega)).trans (at6 k (by omega) (hpF y hy k hk))
    have en6 : w6.heap[eb]? = some (.cells #[.int .i64 x.job, .string ⟨⟨x.tn⟩⟩, .int .i64 x.pr, .int .i64 0] 76 (0, 0)) := (at6 eb hlE fun hf => by have := hnF y hy eb hf; omega).trans A.en
    have hW' : QW (w6.setCell ⟨eb, 3, none⟩ (.int .i64 y.g)) pb (some m) (some m2) (l ++ [(⟨x, y.g, eb⟩ : Hd)]) := set_H (add_W h.W hM (fun k e => e) hx hno A) (atO pb (.inl rfl)) (fun m' e => atO m' (.inr (.inl e))) (fun a ha => atO a.b (.inr (.inr (.inr ⟨a, ha, rfl⟩)))) (setB en6 _)
    have hS' : ∀ k, Fp y.hb S' k → (Fp y.hb y.S k ∧ k < w.heap.size) ∨ W.heap.size ≤ k := fun k hk => (hG.fp k hk).elim (fun q => .inl ⟨q, hnF y hy k q⟩) .inr
    have one : ∀ z ∈ q, z.nm = x.tn → z = y := fun z hz' e => srtN_one h.H.srt hz' hy (e.trans hyn.symm)
    have hlow : ∀ a ∈ l, a.j.tn = x.tn → a.h < y.g := fun a ha e => by
      obtain ⟨-, z, e1, -, e2⟩ := hc.ok ((h.H.ct y hy a.h (ky a.j)).2 ⟨a, ha, e.trans hyn.symm, rfl, rfl⟩)
      omega
    have mq : ∀ z' ∈ q.map (chQ x.tn (y.C.put y.g (ky x)) (y.g + 1) (y.n + 1) S'), (z' = ⟨y.nm, y.hb, y.C.put y.g (ky x), y.g + 1, y.n + 1, S'⟩) ∨ (z' ∈ q ∧ z'.nm ≠ x.tn) := fun z' hz' => by
      obtain ⟨z, hz1, rfl⟩ := List.mem_map.1 hz'
      unfold chQ
      by_cases e : z.nm = x.tn
      · rw [if_pos e, one z hz1 e]; exact .inl rfl
      · rw [if_neg e]; exact .inr ⟨hz1, e⟩
    refine ⟨fun k => if k < w.heap.size then ow k else if W.heap.size ≤ k then some x.tn else none, some m, some m2, l ++ [(⟨x, y.g, eb⟩ : Hd)], q.map (chQ x.tn (y.C.put y.g (ky x)) (y.g + 1) (y.n + 1) S'), ⟨hW', ⟨?_, fun z' hz' => ?_, ?_, fun z' hz' t k => ?_, fun a ha b hb e1 e2 => ?_, fun a ha => ?_, fun z' hz' => ?_, fun z' hz' => ?_, fun z' hz' k hk => ?_, by rw [List.length_map]; exact h.H.len⟩, (fun e => by cases e), h.ns, fun k hk => ?_⟩, ?_, ?_, fun k hk => ?_⟩
    · show World.ownsMap _ _ _ _ _ _ _
      rw [List.length_map, mapH_ch]
      exact keepMap hmh ((atO m2 (.inr (.inr (.inl rfl)))).trans (A.f2.trans h2.symm))
    · rcases mq z' hz' with rfl | ⟨hz1, hz2⟩
      · refine ⟨hC'.keep fun k hk => atF k ?_, by show y.g + 1 ≤ N + 1; omega⟩
        rcases hS' k hk with q1 | q1 <;> omega
      · obtain ⟨c1, c2'⟩ := h.H.hp z' hz1
        refine ⟨c1.keep fun k hk => ?_, by omega⟩
        have h1 := hnF z' hz1 k hk
        refine (atF k (by omega)).trans ((at6 k (by omega) fun hf => ?_).trans (heap_W h (fun k e => e) A.kp hz1 k hk))
        have e1 := h.H.oh z' hz1 k hk
        rw [h.H.oh y hy k hf] at e1
        exact hz2 ((Option.some.inj e1).symm.trans hyn)
    · refine List.pairwise_map.2 (h.H.srt.imp fun {a b} hab => ?_)
      rw [chQ_nm, chQ_nm]
      exact hab
    · rcases mq z' hz' with rfl | ⟨hz1, hz2⟩
      · show (if t = (y.g : Int) then some (ky x) else y.C t) = some k ↔ _
        constructor
        · intro e
          split at e
          · rename_i e'
            exact ⟨_, List.mem_append_right _ (List.mem_singleton.2 rfl), hyn.symm, e'.symm, Option.some.inj e⟩
          · obtain ⟨a, ha, r⟩ := (h.H.ct y hy t k).1 e
            exact ⟨a, List.mem_append_left _ ha, r⟩
        · rintro ⟨a, ha, e1, e2, e3⟩
          rcases List.mem_append.1 ha with qa | qa
          · have h1 := hlow a qa (e1.trans hyn)
            rw [if_neg (by omega)]
            exact (h.H.ct y hy t k).2 ⟨a, qa, e1, e2, e3⟩
          · rw [List.mem_singleton.1 qa] at e2 e3
            rw [if_pos e2.symm, ← e3]
      · rw [h.H.ct z' hz1 t k]
        constructor
        · rintro ⟨a, ha, r⟩; exact ⟨a, List.mem_append_left _ ha, r⟩
        · rintro ⟨a, ha, e1, r⟩
          rcases List.mem_append.1 ha with qa | qa
          · exact ⟨a, qa, e1, r⟩
          · rw [List.mem_singleton.1 qa] at e1; exact absurd e1.symm hz2
    · rcases List.mem_append.1 ha with qa | qa <;> rcases List.mem_append.1 hb with qb | qb
      · exact h.H.hu a qa b qb e1 e2
      · rw [List.mem_singleton.1 qb] at e1 e2
        have := hlow a qa e1
        have e2' : a.h = y.g := e2
        omega
      · rw [List.mem_singleton.1 qa] at e1 e2
        have := hlow b qb e1.symm
        have e2' : y.g = b.h := e2
        omega
      · rw [List.mem_singleton.1 qa, List.mem_singleton.1 qb]
    · rcases List.mem_append.1 ha with qa | qa
      · obtain ⟨z, hz1, hz2⟩ := h.H.has a qa
        exact ⟨_, List.mem_map.2 ⟨z, hz1, rfl⟩, by rw [chQ_nm]; exact hz2⟩
      · rw [List.mem_singleton.1 qa]
        exact ⟨_, List.mem_map.2 ⟨y, hy, rfl⟩, by rw [chQ_nm]; exact hyn⟩
    · rcases mq z' hz' with rfl | ⟨hz1, hz2⟩
      · show y.n + 1 = _
        rw [List.filter_append, List.length_append, ← h.H.cnt y hy]
        simp [hyn]
      · rw [List.filter_append, List.length_append, ← h.H.cnt z' hz1]
        have : ¬ x.tn = z'.nm := fun e => hz2 e.symm
        simp [this]
    · rcases mq z' hz' with rfl | ⟨hz1, hz2⟩
      · exact Nat.succ_ne_zero _
      · exact h.H.ne z' hz1
    · rcases mq z' hz' with rfl | ⟨hz1, hz2⟩
      · show (if k < w.heap.size then ow k else if W.heap.size ≤ k then some x.tn else none) = some y.nm
        rcases hS' k hk with ⟨q1, q2⟩ | q1
        · rw [if_pos q2]; exact h.H.oh y hy k q1
        · rw [if_neg (by omega), if_pos q1, hyn]
      · show (if k < w.heap.size then ow k else if W.heap.size ≤ k then some x.tn else none) = some z'.nm
        rw [if_pos (hnF z' hz1 k hk)]
        exact h.H.oh z' hz1 k hk
    · show (if k < w.heap.size then ow k else if W.heap.size ≤ k then some x.tn else none) = none
      by_cases hkw : Oq pb (some m) (some m2) l k
      · rw [if_pos (ltO k hkw)]; exact h.oo k hkw
      · have hke : k = eb := by
          rcases hk with q1 | q1 | q1 | ⟨a, ha, q1⟩
          · exact absurd (.inl q1) hkw
          · exact absurd (.inr (.inl q1)) hkw
          · exact absurd (.inr (.inr (.inl q1))) hkw
          · rcases List.mem_append.1 ha with qa | qa
            · exact absurd (.inr (.inr (.inr ⟨a, qa, q1⟩))) hkw
            · rw [List.mem_singleton.1 qa] at q1; exact q1.symm
        rw [hke, if_neg (by omega), if_neg (by omega)]
    · rw [List.map_append]
      exact List.perm_append_singleton x _
    · refine ((A.kp.mono (S' := Owq pb (some m) (some m2) l q) fun k _ e => .inl (.inr (.inl (by rw [show k = m from e])))).trans hG.kp fun k _ e => .inr ⟨y, hy, e⟩).trans (Kp.of_set (S := (· = eb)) _ ⟨eb, 3, none⟩ _ rfl) fun k hk e => ?_
      have e' : k = eb := e
      omega
    · rcases hk with (q1 | q1 | q1 | ⟨a, ha, q1⟩) | ⟨z', hz', q1⟩
      · exact .inl (.inl (.inl q1))
      · exact .inl (.inl (.inr (.inl q1)))
      · exact .inl (.inl (.inr (.inr (.inl q1))))
      · rcases List.mem_append.1 ha with qa | qa
        · exact .inl (.inl (.inr (.inr (.inr ⟨a, qa, q1⟩))))
        · rw [List.mem_singleton.1 qa] at q1
          have q1' : eb = k := q1
          right; omega
      · rcases mq z' hz' with rfl | ⟨hz1, hz2⟩
        · rcases hS' k q1 with ⟨q2, _⟩ | q2
          · exact .inl (.inr ⟨y, hy, q2⟩)
          · right; omega
        · exact .inl (.inr ⟨z', hz1, q1⟩)
end Go.Proofs.Ythlbeofonbbbdaa
