/-
  MinmaxSorts' law.
-/
import Derived.Test.YtbaffgkopgbknaaLh
import Derived.Lib.QuietBelow
namespace Go.Proofs.Ytbaffgkopgbknaa
open Go.RowKit Go.Maps Go.Sort

/-- two heaps and two rows of numbers, apart -/
structure Sm (w wr : World) (ha hb : Nat) (Ca Cb : Ct) (n m : Nat) (uv dv : Value) (ul dl : List Nat) : Prop where
  t : Tw w wr ha Ca n m hb Cb n m (fun k => uv.ownBlock = some k ∨ dv.ownBlock = some k)
  u : Rw wr uv ul
  d : Rw wr dv dl
  ne : ∀ k, uv.ownBlock = some k → dv.ownBlock ≠ some k
  al : ∀ k, (uv.ownBlock = some k ∨ dv.ownBlock = some k) → w.heap.size ≤ k
section
variable {w wr w' : World} {ha hb n m x : Nat} {Ca Cb : Ct} {uv dv v' : Value} {ul dl : List Nat} {L : List K}
theorem Sm.flip (h : Sm w wr ha hb Ca Cb n m uv dv ul dl) : Sm w wr ha hb Ca Cb n m dv uv dl ul := ⟨h.t.less fun _ q => q.symm, h.d, h.u, fun k q q' => h.ne k q' q, fun k q => h.al k q.symm⟩
theorem Sm.below (h : Sm w wr ha hb Ca Cb n m uv dv ul dl) (b : Below wr.heap.size wr w') : Sm w w' ha hb Ca Cb n m uv dv ul dl := ⟨h.t.below b, h.u.keep fun g q => b.block g (h.u.lt q), h.d.keep fun g q => b.block g (h.d.lt q), h.ne, h.al⟩
theorem Sm.app {o : Obj} (h : Sm w wr ha hb Ca Cb n m uv dv ul dl) (h1 : Rw w' v' (ul ++ [x])) (h2 : (wr.alloc o).grownBy w' uv.ownBlock) (h3 : v'.ownBlock = uv.ownBlock ∨ v'.ownBlock = some (wr.alloc o).heap.size) : Sm w w' ha hb Ca Cb n m v' dv (ul ++ [x]) dl := by
  have K : Kp (fun k => uv.ownBlock = some k) wr w' := (Kp.alloc wr o).trans (Kp.of_grown (S := fun k => uv.ownBlock = some k) h2 fun k e => e) fun _ _ h => h
  have loc : ∀ k, v'.ownBlock = some k → uv.ownBlock = some k ∨ wr.heap.size ≤ k := fun k q => by
    rcases h3 with h3 | h3 <;> rw [h3] at q
    · exact .inl q
    · simp at q; right; omega
  have G := h.t.grow (r := uv.ownBlock) (r' := v'.ownBlock) K (fun k q => ⟨.inl q, h.al k (.inl q)⟩) (fun k q => ⟨loc k q, h1.lt q⟩)
  refine ⟨G.less fun k q => ?_, h1, h.d.keep fun g q => K.block g (h.d.lt q) fun q' => h.ne g q' q, fun k q q' => ?_, fun k q => ?_⟩
  · rcases q with q | q
    · exact .inr q
    · exact .inl (.inr q)
  · rcases loc k q with r | r
    · exact h.ne k r q'
    · have := h.d.lt q'; omega
  · rcases q with q | q
    · rcases loc k q with r | r
      · exact h.al k (.inl r)
      · exact Nat.le_trans h.t.b.size r
    · exact h.al k (.inr q)
/-- the first popped from below, then the other from above -/
theorem Sm.pops (h : Sm w wr ha hb (rest L ul) (rest L dl) L.length m uv dv ul dl) (hm : m ≠ 0) (hL : L.length ≤ 1000) (pu : Ps L 0 ul) (pd : Ps L 1 dl) : ∃ x y : Nat, x < L.length ∧ y < L.length ∧ Ps L 0 (ul ++ [x]) ∧ Ps L 1 (dl ++ [y]) ∧
    Calls Try.prog 13 #[ptr ha] wr fun e w' => e = .returned (.tuple #[.int .i64 x, ktup (lk L x), .int .i64 0]) ∧ Hid (∀ w2, w2 = w'.alloc (.cells (kc (lk L x)) 32) → Calls Try.prog 14 #[ptr hb] w2 fun e w3 => e = .returned (.tuple #[.int .i64 y, ktup (lk L y), .int .i64 0]) ∧ Hid (w3.heap[w'.heap.size]? = some (.cells (kc (lk L x)) 32 (0, 0)) ∧ Sm w w3 ha hb (rest L (ul ++ [x])) (rest L (dl ++ [y])) L.length (m - 1) uv dv ul dl)) := by
  obtain ⟨x, k, h1, h2, _, h3⟩ := tw_pop h.t hm (s := 0) (by decide)
  obtain ⟨g1, g2, g3⟩ := pu.next (by decide) hL h1
  subst g3
  obtain ⟨y, k', f1, f2, _, f3⟩ := tw_pop h.t.swap hm (s := 1) (by decide)
  obtain ⟨e1, e2, e3⟩ := pd.next (by decide) hL f1
  subst e3
  refine ⟨x, y, g2, e2, g1, e1, h3.mono ?_⟩
  rintro q w' ⟨rfl, h4, h5⟩
  refine ⟨rfl, fun w2 q2 => ?_⟩
  subst q2
  have hb' := (h4.box (.cells (kc (lk L x)) 32)).swap
  obtain ⟨y', k2, j1, j2, _, j3⟩ := tw_pop hb' hm (s := 1) (by decide)
  obtain ⟨rfl, rfl⟩ := ext_same (by decide) j1 f1 j2 f2 (hb'.ok j1.1).2.1 (h.t.swap.ok f1.1).2.1
  refine j3.mono ?_
  rintro q w3 ⟨rfl, j4, j5⟩
  have j6 := j4.swap
  rw [rest_del, rest_del] at j6
  have kb : ∀ g, (uv.ownBlock = some g ∨ dv.ownBlock = some g) → w3.heap[g]? = wr.heap[g]? := fun g q => ((j5 g (.inl q)).trans (Below.heap_alloc w' _ g (h4.t g q))).trans (h5 g q)
  refine ⟨rfl, (j5 _ (.inr rfl)).trans new0, j6.less fun k q => .inl q, h.u.keep fun g q => kb g (.inl q), h.d.keep fun g q => kb g (.inr q), h.ne, h.al⟩
end
def Se (w wr : World) (ha hb : Nat) (L : List K) (uv dv : Value) (i : Nat) : Prop := ∃ ul dl, Sm w wr ha hb (rest L ul) (rest L dl) L.length (L.length - i) uv dv ul dl ∧ Ps L 0 ul ∧ Ps L 1 dl ∧ ul.length = i ∧ dl.length = i
theorem shape_n {w : World} {v : Value} {l : List Nat} (h : Rw w v l) (hl : 0 < l.length) : ∃ g c, v = .slice (some ⟨g, 0, none⟩) l.length c := h.row (by rintro q; rw [q] at hl; simp at hl)
end Go.Proofs.Ytbaffgkopgbknaa
