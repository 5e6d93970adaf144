/-
  Rows of jobs that are changed: a job's state, a job shifted, a job laid behind the others.
-/
import Derived.Test.YtodldfgoieikcaaRd
namespace Go.Proofs.Ytodldfgoieikcaa
open Go.RowKit Go.Maps

theorem own_set {w : World} {B t s g n c : Nat} {xs : List Value} (h : w.ownsRow B t s (.slice (some ⟨g, 0, none⟩) n c) n xs) (i : Nat) (u : Value) : (w.setCell ⟨g, i, none⟩ u).ownsRow B t s (.slice (some ⟨g, 0, none⟩) n c) n (xs.set i u) := by
  refine ⟨by rw [List.length_set]; exact h.1, ?_⟩
  rcases h.2 with ⟨e, _⟩ | ⟨g', cap, cur, e, hb, hgg, h1, h2, h3, h4⟩
  · cases e
  · injection e with e1 e2 e3
    cases e1
    subst e3
    refine .inr ⟨g, c, cur.setIfInBounds i u, rfl, hb, setB hgg _, h1, h2, by rw [Array.size_setIfInBounds]; exact h3, ?_⟩
    rw [Array.toList_setIfInBounds, List.take_set, h4]
theorem jbs_cons (a : JB) (r : List JB) : jbs (a :: r) = a.cs ++ jbs r := by unfold jbs; rw [List.flatMap_cons]
theorem jbs_set : ∀ (L : List JB) (k : Nat) (b : JB), jbs (L.set k b) = if k < L.length then (((jbs L).set (k * 3) (.int .i64 b.id)).set (k * 3 + 1) (.slice b.p b.n b.c)).set (k * 3 + 2) (.int .i64 b.st) else jbs L
  | [], k, b => by simp
  | a :: r, 0, b => by
    rw [if_pos (by simp), List.set_cons_zero, jbs_cons, jbs_cons]
    simp [JB.cs]
  | a :: r, k + 1, b => by
    have ih := jbs_set r k b
    rw [List.set_cons_succ, jbs_cons, jbs_cons, ih]
    by_cases h : k < r.length
    · rw [if_pos h, if_pos (by simp; omega)]
      have e : a.cs.length = 3 := rfl
      rw [List.set_append_right _ _ (by omega), List.set_append_right _ _ (by omega), List.set_append_right _ _ (by omega), e, show (k + 1) * 3 - 3 = k * 3 by omega, show (k + 1) * 3 + 1 - 3 = k * 3 + 1 by omega, show (k + 1) * 3 + 2 - 3 = k * 3 + 2 by omega]
    · rw [if_neg h, if_neg (by simp; omega)]
theorem set_same {α : Type} {L : List α} {i : Nat} {u : α} (h : L[i]? = some u) : L.set i u = L := by
  apply List.ext_getElem?
  intro j
  rw [List.getElem?_set]
  by_cases e : i = j
  · subst e; rw [if_pos rfl, if_pos (List.getElem?_eq_some_iff.1 h).1, h]
  · rw [if_neg e]
theorem jbs_st {R : List JB} {i x : Nat} {b : JB} (hb : R[i]? = some b) : jbs (R.set i { b with st := x }) = (jbs R).set (i * 3 + 2) (.int .i64 x) := by
  rw [jbs_set, if_pos (List.getElem?_eq_some_iff.1 hb).1]
  have h0 := jbs_at hb 0 (by omega)
  have h1 := jbs_at hb 1 (by omega)
  show (((jbs R).set (i * 3) (Value.int .i64 b.id)).set (i * 3 + 1) (Value.slice b.p b.n b.c)).set (i * 3 + 2) (Value.int .i64 x) = _
  have e0 : (jbs R).set (i * 3) (Value.int .i64 b.id) = jbs R := set_same (by simpa [JB.cs] using h0)
  have e1 : (jbs R).set (i * 3 + 1) (Value.slice b.p b.n b.c) = jbs R := set_same (by simpa [JB.cs] using h1)
  rw [e0, e1]
theorem irow_ne {b : Nat} {w : World} {v : Value} {E : List Int} {g t : Nat} {cur : Array Value} (h : IRow b w v E) (hg : w.heap[g]? = some (.cells cur t (0, 0))) (ht : t ≠ 2) : ∀ k, v.ownBlock = some k → k ≠ g := fun k e q => by
  rcases h.2 with ⟨e0, _⟩ | ⟨g', cap, cur', e0, _, hgg, _⟩
  · rw [e0] at e; cases e
  · rw [e0] at e
    cases e
    subst q
    rw [hg] at hgg
    injection hgg with hgg
    injection hgg with _ q
    exact ht q
theorem IRow.setO {b : Nat} {w : World} {v : Value} {E : List Int} {g t i : Nat} {cur : Array Value} {u : Value} (h : IRow b w v E) (hg : w.heap[g]? = some (.cells cur t (0, 0))) (ht : t ≠ 2) : IRow b (w.setCell ⟨g, i, none⟩ u) v E :=
  h.keep fun k e => Below.heap_setCell _ _ _ _ (irow_ne h hg ht k e)
theorem Jok.setst {R : List JB} (h : Jok R) {i x : Nat} {b : JB} (hb : R[i]? = some b) (hx : 1 ≤ x ∧ x ≤ 3) : Jok (R.set i { b with st := x }) := by
  have hbm := List.mem_of_getElem? hb
  refine ⟨?_, fun a ha => ?_, fun a ha => ?_⟩
  · have h1 : (R.set i { b with st := x }).map JB.id = R.map JB.id := by
      rw [List.map_set]
      exact set_same (by rw [List.getElem?_map, hb]; rfl)
    have h2 := h.s
    rw [← List.pairwise_map (f := JB.id) (R := fun a b => a < b)] at h2 ⊢
    rw [h1]
    exact h2
  · rcases List.mem_or_eq_of_mem_set ha with q | q
    · exact h.g a q
    · subst q; exact ⟨(h.g b hbm).1, (h.g b hbm).2.1, hx.1, hx.2⟩
  · rcases List.mem_or_eq_of_mem_set ha with q | q
    · exact h.q a q
    · subst q; exact h.q b hbm
theorem Rm.setst {w : World} {bs rb g n c i x : Nat} {R : List JB} {b : JB} (h : Rm w bs rb (.slice (some ⟨g, 0, none⟩) n c) R) (hb : R[i]? = some b) (hx : 1 ≤ x ∧ x ≤ 3) : Rm (w.setCell ⟨g, i * 3 + 2, none⟩ (.int .i64 x)) bs rb (.slice (some ⟨g, 0, none⟩) n c) (R.set i { b with st := x }) := by
  obtain ⟨cur, hg, _⟩ := h.blk
  have hn : n = R.length := by obtain ⟨a, c', e⟩ := h.shape; injection e
  have hne : rb ≠ g := fun e => by
    have h1 := h.c
    rw [e, hg] at h1
    injection h1 with h1
    injection h1 with _ q
    exact absurd q (by decide)
  refine ⟨(Below.heap_setCell _ _ _ _ hne).trans h.c, ?_, fun a ha => ?_, h.ok.setst hb hx⟩
  · rw [List.length_set, jbs_st hb]
    have := h.r
    rw [← hn] at this ⊢
    exact own_set this _ _
  · rcases List.mem_or_eq_of_mem_set ha with q | q
    · exact (h.p a q).setO hg (by decide)
    · subst q; exact (h.p b (List.mem_of_getElem? hb)).setO hg (by decide)

/-! ### a job is put in -/
def shJ (R : List JB) (x : JB) (j : Nat) : List JB := R.take j ++ (R[j]?.getD x) :: R.drop j
theorem shJ_end (E : List JB) (x : JB) : shJ E x E.length = E ++ [x] := by unfold shJ; simp
theorem shJ_length (E : List JB) (x : JB) (j : Nat) (h : j ≤ E.length) : (shJ E x j).length = E.length + 1 := by unfold shJ; simp; omega
theorem shJ_prev {E : List JB} {x y : JB} {j : Nat} (h : E[j]? = some y) : (shJ E x (j + 1))[j]? = some y := by
  have hl := (List.getElem?_eq_some_iff.1 h).1
  unfold shJ
  rw [List.getElem?_append_left (by simp; omega), List.getElem?_take, if_pos (by omega), h]
theorem shJ_step {E : List JB} {x y : JB} {j : Nat} (h : E[j]? = some y) : (shJ E x (j + 1)).set (j + 1) y = shJ E x j := by
  have hl := (List.getElem?_eq_some_iff.1 h).1
  unfold shJ
  rw [List.set_append_right _ _ (by simp; omega)]
  simp only [List.length_take, Nat.min_eq_left (show j + 1 ≤ E.length by omega), Nat.sub_self, List.set_cons_zero]
  rw [h, Option.getD_some, List.take_add_one, h]
  rw [List.drop_eq_getElem_cons hl]
  have : E[j] = y := by rw [List.getElem?_eq_getElem hl] at h; exact Option.some.inj h
  rw [this]
  simp
theorem shJ_done {E : List JB} {x : JB} {k : Nat} (hk : k ≤ E.length) : (shJ E x k).set k x = E.take k ++ x :: E.drop k := by
  unfold shJ
  rw [List.set_append_right _ _ (by simp; omega)]
  simp [Nat.min_eq_left hk]
/-- the blocks of the reference -/
def Rb (rb : Nat) (v : Value) (k : Nat) : Prop := k = rb ∨ v.ownBlock = some k
structure Ip (w W : World) (bs rb bx : Nat) (v : Value) (g n c : Nat) (R : List JB) (b : JB) (L : List JB) : Prop where
  hb : W.heap[rb]? = some (.cells #[.slice (some ⟨g, 0, none⟩) (n + 1) c] 30 (0, 0))
  r : W.ownsRow bs 60 3 (.slice (some ⟨g, 0, none⟩) (n + 1) c) (n + 1) (jbs L)
  x : W.heap[bx]? = some (.cells #[.int .i64 b.id, .slice b.p b.n b.c, .int .i64 b.st] 60 (0, 0))
  ne : g ≠ rb ∧ g ≠ bx
  kp : Kp (Rb rb v) w W
  lo : v.ownBlock = some g ∨ w.heap.size ≤ g
  p : ∀ a ∈ R, IRow bs W (.slice a.p a.n a.c) a.ps
  q : IRow bs W (.slice b.p b.n b.c) b.ps
section
variable {w W : World} {bs rb bx g n c : Nat} {v : Value} {R L : List JB} {b : JB}
theorem Ip.blk (h : Ip w W bs rb bx v g n c R b L) : ∃ cur, W.heap[g]? = some (.cells cur 60 (0, 0)) := by
  rcases h.r.2 with ⟨e, _⟩ | ⟨g', cap, cur, e, hb, hgg, _⟩
  · cases e
  · cases e
    exact ⟨cur, hgg⟩
theorem Ip.cells (h : Ip w W bs rb bx v g n c R b L) {i : Nat} {a : JB} (ha : L[i]? = some a) : W.cell? ⟨g, i * 3, none⟩ = some (.int .i64 a.id) ∧ W.cell? ⟨g, i * 3 + 1, none⟩ = some (.slice a.p a.n a.c) ∧ W.cell? ⟨g, i * 3 + 2, none⟩ = some (.int .i64 a.st) := by
  have key : ∀ j, j < 3 → ∀ u, a.cs[j]? = some u → W.cell? ⟨g, i * 3 + j, none⟩ = some u := fun j hj u hu => by
    have := World.ownsRow.cells h.r (g := g) rfl (i * 3 + j) u (by rw [jbs_at ha j hj]; exact hu)
    rwa [Addr.add_lit, Nat.zero_add] at this
  exact ⟨key 0 (by omega) _ rfl, key 1 (by omega) _ rfl, key 2 (by omega) _ rfl⟩
theorem Ip.fz (h : Ip w W bs rb bx v g n c R b L) (k : Nat) : W.frozen? ⟨g, k, none⟩ = false := by
  obtain ⟨cur, hg⟩ := h.blk
  exact Go.Proofs.Ytodldfgoieikcaa.fz hg k
theorem Ip.set1 (h : Ip w W bs rb bx v g n c R b L) (i : Nat) (u : Value) (L' : List JB) (hl : jbs L' = (jbs L).set i u) : Ip w (W.setCell ⟨g, i, none⟩ u) bs rb bx v g n c R b L' := by
  obtain ⟨cur, hg⟩ := h.blk
  have hn := h.ne
  refine ⟨(Below.heap_setCell _ _ _ _ hn.1.symm).trans h.hb, by rw [hl]; exact own_set h.r _ _, (Below.heap_setCell _ _ _ _ hn.2.symm).trans h.x, h.ne, ?_, h.lo, fun a ha => (h.p a ha).setO hg (by decide), h.q.setO hg (by decide)⟩
  rcases h.lo with e | e
  · exact h.kp.trans (Kp.of_set (S := Rb rb v) W _ _ (.inr e)) fun _ _ q => q
  · refine ⟨h.kp.os, h.kp.tape, h.kp.output, Nat.le_trans h.kp.size (by simp [World.setCell]), fun k hk hq => (Below.heap_setCell _ _ _ _ (by show k ≠ g; omega)).trans (h.kp.block k hk hq)⟩
theorem Ip.put (h : Ip w W bs rb bx v g n c R b L) (k : Nat) (a : JB) (hk : k < L.length) : Ip w (((W.setCell ⟨g, k * 3, none⟩ (.int .i64 a.id)).setCell ⟨g, k * 3 + 1, none⟩ (.slice a.p a.n a.c)).setCell ⟨g, k * 3 + 2, none⟩ (.int .i64 a.st)) bs rb bx v g n c R b (L.set k a) := by
  obtain ⟨l, hl⟩ : ∃ l, L[k]? = some l := ⟨_, List.getElem?_eq_getElem hk⟩
  have e2 : jbs (L.set k a) = (((jbs L).set (k * 3) (.int .i64 a.id)).set (k * 3 + 1) (.slice a.p a.n a.c)).set (k * 3 + 2) (.int .i64 a.st) := by rw [jbs_set, if_pos hk]
  have h0 := jbs_at hl 0 (by omega)
  have h1 := jbs_at hl 1 (by omega)
  have h2 := jbs_at hl 2 (by omega)
  simp only [JB.cs, List.getElem?_cons_zero, List.getElem?_cons_succ] at h0 h1 h2
  have a1 : jbs (L.set k ⟨a.id, l.st, l.p, l.n, l.c, l.ps⟩) = (jbs L).set (k * 3) (.int .i64 a.id) := by
    rw [jbs_set, if_pos hk, set_same (i := k * 3 + 1) (by rw [List.getElem?_set_ne (by omega)]; exact h1), set_same (i := k * 3 + 2) (by rw [List.getElem?_set_ne (by omega)]; exact h2)]
  have a2 : jbs (L.set k ⟨a.id, l.st, a.p, a.n, a.c, l.ps⟩) = ((jbs L).set (k * 3) (.int .i64 a.id)).set (k * 3 + 1) (.slice a.p a.n a.c) := by
    rw [jbs_set, if_pos hk, set_same (i := k * 3 + 2) (by rw [List.getElem?_set_ne (by omega), List.getElem?_set_ne (by omega)]; exact h2)]
  exact ((h.set1 (k * 3) _ _ a1).set1 (k * 3 + 1) _ _ (by rw [a2, a1])).set1 (k * 3 + 2) _ _ (by rw [e2, a2])
theorem Ip.drew (h : Ip w W bs rb bx v g n c R b L) : Ip w W.drew bs rb bx v g n c R b L :=
  ⟨h.hb, h.r, h.x, h.ne, h.kp.drew 1, h.lo, h.p, h.q⟩
theorem Ip.keep {W1 : World} (h : Ip w W bs rb bx v g n c R b L) (e : W1.heap = W.heap) (k : Kp (Rb rb v) w W1) : Ip w W1 bs rb bx v g n c R b L :=
  ⟨by rw [e]; exact h.hb, ownsKeep h.r fun g _ => by rw [e], by rw [e]; exact h.x, h.ne, k, h.lo, fun a ha => (h.p a ha).keep fun g _ => by rw [e], h.q.keep fun g _ => by rw [e]⟩
end
theorem info60 : (Try.prog.info? 60).map (fun i => (i.zero, i.size, i.bytes)) = some (some (.agg #[.int .i64 0, .slice none 0 0, .int .i64 0]), 3, 40) := by kernel_rfl
/-- a job laid behind the others, as a step of a region that draws -/
theorem step_job {ops : Array Oper} {o : Oper} {a : Act} {W : World} {K : Act → World → Prop} {Q : Exit → Act → World → Prop} {F : Prop} (hgd : o.guard = none) (s x : Operand) (ho : o.op = .call { callee := .builtin .append, args := #[s, x], argTypes := #[28, 28] })
    (w : World) (bs rb bx : Nat) (p : Option Addr) (n c : Nat) (R : List JB) (b : JB) (hs : a.eval s = .slice p n c) (hn : R.length = n) (hr : Rm w bs rb (.slice p n c) R) (hb : Below w.heap.size w W) (hbs : bs ≤ w.heap.size)
    (hx0 : W.heap[bx]? = some (.cells #[.int .i64 b.id, .slice b.p b.n b.c, .int .i64 b.st] 60 (0, 0))) (hbx : w.heap.size ≤ bx) (hq : IRow bs W (.slice b.p b.n b.c) b.ps)
    (g cc : Nat) (hx : a.eval x = .slice (some ⟨g, 0, none⟩) 1 cc) (hg : W.heap[g]? = some (.cells b.cs.toArray 60 (0, 0)))
    (h : ∀ g3 c3 w3, w3.cell? ⟨rb, 0, none⟩ = some (.slice p n c) ∧ w3.frozen? ⟨rb, 0, none⟩ = false → Hid (Ip w (w3.setCell ⟨rb, 0, none⟩ (.slice (some ⟨g3, 0, none⟩) (n + 1) c3)) bs rb bx (.slice p n c) g3 n c3 R b (R ++ [b])) → K (a.put o.dst (.slice (some ⟨g3, 0, none⟩) (n + 1) c3)) w3) :
    if Region.wanted o (yielded ops a.tmps) = true then Oper.wp Try.prog o a W K Q else F := by
  obtain ⟨i0, hi, hz0, hz1, hz2⟩ := info_parts info60
  have hR := hr.below hb
  have hl := hr.ok.len
  have hrow := hR.r
  rw [hn] at hrow hl
  obtain ⟨v', w3, hrun, h2, h3, _, h5⟩ := run_append_own_at (P := Try.prog) W bs 28 o.type 60 i0 _ 3 40 Try.underlying28 hi hz0 hz1 hz2 rfl (by decide) (.slice p n c) n (jbs R) hrow ⟨g, 0, none⟩ 1 cc b.cs rfl (fun j u hj => by rw [Addr.add_lit, Nat.zero_add, cell_of hg]; simpa using hj) (fun u hu => jbs_one (R := [b]) u (by simpa [jbs] using hu)) (by unfold maxLen; omega) (by omega) (Nat.le_trans hbs hb.size)
  have e2 : jbs (R ++ [b]) = jbs R ++ b.cs := by simp [jbs]
  rw [← e2] at h2
  obtain ⟨g3, c3, rfl⟩ : ∃ g3 c3, v' = .slice (some ⟨g3, 0, none⟩) (n + 1) c3 := by
    rcases h2.2 with ⟨_, h0⟩ | ⟨g3, cap, cur, e, _⟩
    · omega
    · exact ⟨g3, cap, e⟩
  have hg3t : ∃ cur, w3.heap[g3]? = some (.cells cur 60 (0, 0)) := by
    rcases h2.2 with ⟨e, _⟩ | ⟨g', cap, cur, e, _, hgg, _⟩
    · cases e
    · cases e; exact ⟨cur, hgg⟩
  have hne : (Value.slice p n c).ownBlock ≠ some rb := fun q => by
    rcases hr.r.2 with ⟨e0, _⟩ | ⟨g', cap, cur, e0, _, hgg, _⟩
    · rw [e0] at q; cases q
    · rw [e0] at q
      cases q
      have := hr.c
      rw [hgg] at this
      injection this with this
      injection this with _ q
      exact absurd q (by decide)
  have hrb : w3.heap[rb]? = some (.cells #[.slice p n c] 30 (0, 0)) := (h3.block rb hR.lt fun e => hne e.symm).trans hR.c
  have hg3 : g3 ≠ rb := fun e => by
    obtain ⟨cur, hc⟩ := hg3t
    rw [e, hrb] at hc
    injection hc with hc
    injection hc with _ q
    exact absurd q (by decide)
  have hbxl : bx < W.heap.size := (Array.getElem?_eq_some_iff.1 hx0).1
  have hvne : (Value.slice p n c).ownBlock ≠ some bx := fun q => by
    rcases hr.r.2 with ⟨e0, _⟩ | ⟨g', cap, cur, e0, _, hgg, _⟩
    · rw [e0] at q; cases q
    · rw [e0] at q
      have q' : g' = bx := by injection q
      have := (Array.getElem?_eq_some_iff.1 hgg).1
      omega
  have hbx3 : w3.heap[bx]? = some (.cells #[.int .i64 b.id, .slice b.p b.n b.c, .int .i64 b.st] 60 (0, 0)) := (h3.block bx hbxl fun e => hvne e.symm).trans hx0
  have hg3x : g3 ≠ bx := fun e => by
    rcases h5 with q | q
    · exact hvne (by rw [← q, e]; rfl)
    · have : g3 = W.heap.size := by injection q
      omega
  have hrl := hr.lt
  have hrbx : bx ≠ rb := by omega
  have hkeep : ∀ v E, IRow bs W v E → IRow bs (w3.setCell ⟨rb, 0, none⟩ (.slice (some ⟨g3, 0, none⟩) (n + 1) c3)) v E := fun v E hv => by
    have h1 : IRow bs w3 v E := hv.keep fun k e => h3.block k (hv.lt e) fun q => by
      rcases hr.r.2 with ⟨e0, _⟩ | ⟨g', cap, cur, e0, _, hgg, _⟩
      · rw [e0] at q; cases q
      · rw [e0] at q
        cases q
        exact irow_ne hv ((hb.block g' (Array.getElem?_eq_some_iff.1 hgg).1).trans hgg) (by decide) _ e rfl
    exact h1.setO hrb (by decide)
  have key := h g3 c3 w3 ⟨by rw [cell_of hrb]; rfl, fz hrb _⟩ ⟨setB (i := 0) hrb _, ?_, (Below.heap_setCell _ _ _ _ hrbx).trans hbx3, ⟨hg3, hg3x⟩, ?_, ?_, fun a ha => hkeep _ _ (hR.p a ha), hkeep _ _ hq⟩
  · have hw : Region.wanted o (yielded ops a.tmps) = true := by simp [Region.wanted, hgd]
    rw [if_pos hw]
    unfold Oper.wp
    simp [execOp, ho, resolve, invoke, builtin, hs, hx, hrun, Result.andThen]
    exact key
  · exact ownsKeep h2 fun k e => Below.heap_setCell _ _ _ _ fun q => by
      have h7 : g3 = k := by injection e
      exact hg3 (h7.trans q)
  · have k1 : Kp (Rb rb (.slice p n c)) w W := Kp.of_below hb
    have k2 : Kp (Rb rb (.slice p n c)) W w3 := Kp.of_grown h3 fun k q => .inr q
    exact (k1.trans k2 fun _ _ q => q).trans (Kp.of_set _ _ _ (.inl rfl)) fun _ _ q => q
  · rcases h5 with q | q
    · exact .inl (by rw [← q]; rfl)
    · have : g3 = W.heap.size := by injection q
      exact .inr (by have := hb.size; omega)
end Go.Proofs.Ytodldfgoieikcaa
