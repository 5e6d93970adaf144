/-
  Rows of ticks; the ends of takes.
-/
import Derived.Test.YtkfpbpkadkhhnaaQa
namespace Go.Proofs.Ytkfpbpkadkhhnaa
open Go.RowKit Go.Maps

/-! ### mathematics -/
def Ris (E : List Int) : Prop := E.Pairwise fun x y => x < y
theorem Ris.lt {E : List Int} (h : Ris E) {i j : Nat} {x y : Int} (hij : i < j) (hi : E[i]? = some x) (hj : E[j]? = some y) : x < y := by
  obtain ⟨h1, rfl⟩ := List.getElem?_eq_some_iff.1 hi
  obtain ⟨h2, rfl⟩ := List.getElem?_eq_some_iff.1 hj
  exact List.pairwise_iff_getElem.1 h i j h1 h2 hij
theorem ris_ins {E : List Int} (h : Ris E) {k : Nat} {x : Int} (h1 : ∀ (i : Nat) (y : Int), E[i]? = some y → i < k → y < x) (h2 : ∀ (i : Nat) (y : Int), E[i]? = some y → k ≤ i → x < y) : Ris (E.take k ++ x :: E.drop k) := by
  unfold Ris
  rw [List.pairwise_append, List.pairwise_cons]
  have hs := h
  rw [← List.take_append_drop k E] at hs
  unfold Ris at hs
  rw [List.pairwise_append] at hs
  refine ⟨hs.1, ⟨fun y hy => ?_, hs.2.1⟩, fun y hy z hz => ?_⟩
  · obtain ⟨i, hi⟩ := List.getElem?_of_mem hy
    rw [List.getElem?_drop] at hi
    exact h2 (k + i) y hi (by omega)
  · obtain ⟨i, hi⟩ := List.getElem?_of_mem hy
    rw [List.getElem?_take] at hi
    split at hi
    · have hyx := h1 i y hi (by assumption)
      rcases List.mem_cons.1 hz with rfl | hz
      · exact hyx
      · obtain ⟨j, hj⟩ := List.getElem?_of_mem hz
        rw [List.getElem?_drop] at hj
        have := h2 (k + j) z hj (by omega)
        omega
    · cases hi
/-- the half-th end of the takes -/
def hs (T : List Opr) (i : Nat) (x : Int) : Prop := ∃ o, T[i / 2]? = some o ∧ x = if i % 2 = 1 then o.b else o.a
/-- the ends of the first i halves, rising -/
structure En (T : List Opr) (i : Nat) (E : List Int) : Prop where
  r : Ris E
  m : ∀ x, x ∈ E ↔ ∃ j, j < i ∧ hs T j x
  l : E.length ≤ i
theorem En.nil (T : List Opr) : En T 0 [] := ⟨List.Pairwise.nil, fun x => by simp, Nat.le_refl _⟩
theorem En.old {T : List Opr} {i : Nat} {E : List Int} {x : Int} (h : En T i E) (hx : hs T i x) (hm : x ∈ E) (hu : ∀ y, hs T i y → y = x) : En T (i + 1) E := by
  refine ⟨h.r, fun y => ?_, by have := h.l; omega⟩
  rw [h.m]
  constructor
  · rintro ⟨j, h1, h2⟩; exact ⟨j, by omega, h2⟩
  · rintro ⟨j, h1, h2⟩
    by_cases e : j = i
    · subst e; rw [hu y h2]; exact (h.m x).1 hm
    · exact ⟨j, by omega, h2⟩
theorem En.new {T : List Opr} {i k : Nat} {E : List Int} {x : Int} (h : En T i E) (hx : hs T i x) (hu : ∀ y, hs T i y → y = x) (hk : k ≤ E.length) (h1 : ∀ (i : Nat) (y : Int), E[i]? = some y → i < k → y < x) (h2 : ∀ (i : Nat) (y : Int), E[i]? = some y → k ≤ i → x < y) : En T (i + 1) (E.take k ++ x :: E.drop k) := by
  refine ⟨ris_ins h.r h1 h2, fun y => ?_, by have := h.l; simp; omega⟩
  have : y ∈ E.take k ++ x :: E.drop k ↔ y = x ∨ y ∈ E := by
    conv => rhs; rhs; rw [← List.take_append_drop k E]
    simp only [List.mem_append, List.mem_cons]
    constructor
    · rintro (q | q | q)
      · exact .inr (.inl q)
      · exact .inl q
      · exact .inr (.inr q)
    · rintro (q | q | q)
      · exact .inr (.inl q)
      · exact .inl q
      · exact .inr (.inr q)
  rw [this, h.m]
  constructor
  · rintro (rfl | ⟨j, a, b⟩)
    · exact ⟨i, by omega, hx⟩
    · exact ⟨j, by omega, b⟩
  · rintro ⟨j, a, b⟩
    by_cases e : j = i
    · subst e; exact .inl (hu y b)
    · exact .inr ⟨j, by omega, b⟩
/-- all ends -/
structure Ends (T : List Opr) (E : List Int) : Prop where
  r : Ris E
  a : ∀ o ∈ T, o.a ∈ E ∧ o.b ∈ E
  m : ∀ x ∈ E, ∃ o ∈ T, x = o.a ∨ x = o.b
  l : E.length ≤ 2 * T.length
theorem En.all {T : List Opr} {E : List Int} (h : En T (2 * T.length) E) : Ends T E := by
  refine ⟨h.r, fun o ho => ?_, fun x hx => ?_, h.l⟩
  · obtain ⟨i, hi⟩ := List.getElem?_of_mem ho
    have hl := (List.getElem?_eq_some_iff.1 hi).1
    refine ⟨(h.m _).2 ⟨2 * i, by omega, o, ?_, ?_⟩, (h.m _).2 ⟨2 * i + 1, by omega, o, ?_, ?_⟩⟩
    · rw [show 2 * i / 2 = i by omega]; exact hi
    · rw [if_neg (by omega)]
    · rw [show (2 * i + 1) / 2 = i by omega]; exact hi
    · rw [if_pos (by omega)]
  · obtain ⟨j, _, o, h1, h2⟩ := (h.m x).1 hx
    refine ⟨o, List.mem_of_getElem? h1, ?_⟩
    split at h2
    · exact .inr h2
    · exact .inl h2

/-! ### rows of ticks -/
def ints (E : List Int) : List Value := E.map (Value.int .i64)
theorem ints_at {E : List Int} {i : Nat} {x : Int} (h : E[i]? = some x) : (ints E)[i]? = some (.int .i64 x) := by unfold ints; rw [List.getElem?_map, h]; rfl
theorem ints_one {E : List Int} : ∀ v ∈ ints E, v.oneCell' = true := fun v hv => by
  obtain ⟨x, _, rfl⟩ := List.mem_map.1 hv
  rfl
/-- a row of ticks, made behind b -/
def IRow (b : Nat) (w : World) (v : Value) (E : List Int) : Prop := w.ownsRow b 2 1 v E.length (ints E)
section
variable {w w1 : World} {v : Value} {E : List Int} {b g n c i : Nat}
theorem IRow.nil (b : Nat) (w : World) : IRow b w (.slice none 0 0) [] := World.ownsRow_nil w b 2 1
theorem IRow.shape (h : IRow b w v E) : ∃ a c, v = .slice a E.length c := by
  rcases h.2 with ⟨rfl, h0⟩ | ⟨g, cap, cur, rfl, _⟩
  · exact ⟨none, 0, by rw [h0]⟩
  · exact ⟨_, _, rfl⟩
theorem IRow.lt (h : IRow b w v E) {g : Nat} (e : v.ownBlock = some g) : g < w.heap.size := (World.ownsRow.lt h g e).2
theorem IRow.ge (h : IRow b w v E) {g : Nat} (e : v.ownBlock = some g) : b ≤ g := (World.ownsRow.lt h g e).1
theorem IRow.keep (h : IRow b w v E) (k : ∀ g, v.ownBlock = some g → w1.heap[g]? = w.heap[g]?) : IRow b w1 v E := ownsKeep h k
theorem IRow.below (h : IRow b w v E) (k : Below w.heap.size w w1) : IRow b w1 v E := h.keep fun g e => k.block g (h.lt e)
theorem IRow.row (h : IRow b w v E) (hl : 0 < E.length) : ∃ g c, v = .slice (some ⟨g, 0, none⟩) E.length c := by
  rcases h.2 with ⟨rfl, h0⟩ | ⟨g, cap, cur, rfl, _⟩
  · omega
  · exact ⟨g, cap, rfl⟩
theorem IRow.cell (h : IRow b w (.slice (some ⟨g, 0, none⟩) n c) E) {x : Int} (hx : E[i]? = some x) : w.cell? ⟨g, i, none⟩ = some (.int .i64 x) := by
  have := World.ownsRow.cells h (g := g) rfl i _ (ints_at hx)
  rwa [Addr.add_lit, Nat.zero_add] at this
theorem IRow.fz (h : IRow b w (.slice (some ⟨g, 0, none⟩) n c) E) (k : Nat) : w.frozen? ⟨g, k, none⟩ = false := by
  rcases h.2 with ⟨e, _⟩ | ⟨g', cap, cur, e, hb, hgg, _⟩
  · cases e
  · cases e
    exact Go.Proofs.Ytkfpbpkadkhhnaa.fz hgg k
theorem IRow.set (h : IRow b w (.slice (some ⟨g, 0, none⟩) n c) E) (i : Nat) (x : Int) : IRow b (w.setCell ⟨g, i, none⟩ (.int .i64 x)) (.slice (some ⟨g, 0, none⟩) n c) (E.set i x) := by
  unfold IRow
  rw [List.length_set]
  refine ⟨by simp [ints], ?_⟩
  rcases h.2 with ⟨e, _⟩ | ⟨g', cap, cur, e, hb, hgg, h1, h2, h3, h4⟩
  · cases e
  · cases e
    refine .inr ⟨g, c, cur.setIfInBounds i (.int .i64 x), rfl, hb, setB hgg _, h1, h2, by rw [Array.size_setIfInBounds]; exact h3, ?_⟩
    rw [Array.toList_setIfInBounds, List.take_set, h4]
    unfold ints
    rw [List.map_set]
end
/-- while a row is shifted -/
def shf (E : List Int) (x : Int) (j : Nat) : List Int := E.take j ++ (E[j]?.getD x) :: E.drop j
theorem shf_end (E : List Int) (x : Int) : shf E x E.length = E ++ [x] := by unfold shf; simp
theorem shf_length (E : List Int) (x : Int) (j : Nat) (h : j ≤ E.length) : (shf E x j).length = E.length + 1 := by unfold shf; simp; omega
theorem shf_prev {E : List Int} {x y : Int} {j : Nat} (h : E[j]? = some y) : (shf E x (j + 1))[j]? = some y := by
  have hl := (List.getElem?_eq_some_iff.1 h).1
  unfold shf
  rw [List.getElem?_append_left (by simp; omega), List.getElem?_take, if_pos (by omega), h]
theorem shf_step {E : List Int} {x y : Int} {j : Nat} (h : E[j]? = some y) : (shf E x (j + 1)).set (j + 1) y = shf E x j := by
  have hl := (List.getElem?_eq_some_iff.1 h).1
  unfold shf
  rw [List.set_append_right _ _ (by simp; omega)]
  simp only [List.length_take, Nat.min_eq_left (show j + 1 ≤ E.length by omega), Nat.sub_self, List.set_cons_zero]
  rw [h, Option.getD_some, List.take_add_one, h]
  rw [List.drop_eq_getElem_cons hl]
  have : E[j] = y := by rw [List.getElem?_eq_getElem hl] at h; exact Option.some.inj h
  rw [this]
  simp
theorem shf_done {E : List Int} {x : Int} {k : Nat} (hk : k ≤ E.length) : (shf E x k).set k x = E.take k ++ x :: E.drop k := by
  unfold shf
  rw [List.set_append_right _ _ (by simp; omega)]
  simp [Nat.min_eq_left hk]
end Go.Proofs.Ytkfpbpkadkhhnaa
