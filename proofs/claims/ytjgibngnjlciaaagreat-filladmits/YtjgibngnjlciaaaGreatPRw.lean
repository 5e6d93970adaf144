/-
  Rows of steps.
-/
import Derived.Test.YtjgibngnjlciaaaGreatPMb
import Derived.BigRegion
import Derived.Carry
import Derived.Deep.RegionHeld3
import Derived.Deep.RegionLaw
import Derived.Laws.CopyRow
import Derived.Lib.SliceRun
import Derived.Lib.AppendZerosOnto
import Derived.Lib.Overlaps
namespace Go.Proofs.YtjgibngnjlciaaaGreat
open Go.RowKit

def stv (s : Stp) : List Value := [.int .i64 s.at', .int .i64 s.fr.a, .int .i64 s.fr.b, .int .i64 s.fr.c, .int .i64 s.fr.d]
def flat (l : List Stp) : List Value := l.flatMap stv
theorem flat_nil : flat [] = [] := rfl
theorem flat_cons (s : Stp) (l : List Stp) : flat (s :: l) = .int .i64 s.at' :: .int .i64 s.fr.a :: .int .i64 s.fr.b :: .int .i64 s.fr.c :: .int .i64 s.fr.d :: flat l := rfl
theorem flat_append (l m : List Stp) : flat (l ++ m) = flat l ++ flat m := by unfold flat; rw [List.flatMap_append]
theorem pflat_length : ∀ l : List Stp, (flat l).length = l.length * 5
  | [] => rfl
  | a :: l => by rw [flat_cons]; simp only [List.length_cons]; rw [pflat_length l]; omega
theorem flat_at : ∀ {l : List Stp} {i : Nat} {s : Stp}, l[i]? = some s → (flat l)[i * 5]? = some (.int .i64 s.at') ∧ (flat l)[i * 5 + 1]? = some (.int .i64 s.fr.a) ∧ (flat l)[i * 5 + 2]? = some (.int .i64 s.fr.b) ∧ (flat l)[i * 5 + 3]? = some (.int .i64 s.fr.c) ∧ (flat l)[i * 5 + 4]? = some (.int .i64 s.fr.d)
  | [], i, a, h => by simp at h
  | b :: l, 0, a, h => by simp at h; subst h; exact ⟨rfl, rfl, rfl, rfl, rfl⟩
  | b :: l, i + 1, a, h => by
    have := flat_at (l := l) (i := i) (s := a) (by simpa using h)
    rw [flat_cons, show (i + 1) * 5 = i * 5 + 5 by omega]
    exact this
theorem pflat_set : ∀ (l : List Stp) (i : Nat) (s : Stp), flat (l.set i s) = (((((flat l).set (i * 5) (.int .i64 s.at')).set (i * 5 + 1) (.int .i64 s.fr.a)).set (i * 5 + 2) (.int .i64 s.fr.b)).set (i * 5 + 3) (.int .i64 s.fr.c)).set (i * 5 + 4) (.int .i64 s.fr.d)
  | [], i, a => rfl
  | b :: l, 0, a => rfl
  | b :: l, i + 1, a => by
    rw [List.set_cons_succ, flat_cons, flat_cons, pflat_set l i a, show (i + 1) * 5 = i * 5 + 1 + 1 + 1 + 1 + 1 by omega]
    rfl
theorem flat_take : ∀ (l : List Stp) (n : Nat), flat (l.take n) = (flat l).take (n * 5)
  | [], n => by simp [flat]
  | b :: l, 0 => by simp [flat]
  | b :: l, n + 1 => by
    rw [List.take_succ_cons, flat_cons, flat_cons, flat_take l n, show (n + 1) * 5 = n * 5 + 1 + 1 + 1 + 1 + 1 by omega]
    rfl
theorem flat_drop : ∀ (l : List Stp) (n : Nat), flat (l.drop n) = (flat l).drop (n * 5)
  | [], n => by simp [flat]
  | b :: l, 0 => by simp [flat]
  | b :: l, n + 1 => by
    rw [List.drop_succ_cons, flat_cons, flat_drop l n, show (n + 1) * 5 = n * 5 + 1 + 1 + 1 + 1 + 1 by omega]
    rfl
theorem flat_one {l : List Stp} : ∀ v ∈ flat l, v.oneCell' = true := fun v hv => by
  unfold flat stv at hv
  obtain ⟨s, _, h⟩ := List.mem_flatMap.1 hv
  simp at h
  rcases h with rfl | rfl | rfl | rfl | rfl <;> rfl
/-- a row of steps -/
def Row (w : World) (v : Value) (l : List Stp) : Prop := w.ownsRow 0 96 5 v l.length (flat l)
section
variable {w w1 : World} {v : Value} {l : List Stp} {g n c i : Nat}
theorem Row.nil (w : World) : Row w (.slice none 0 0) [] := World.ownsRow_nil w 0 96 5
theorem Row.shape (h : Row w v l) : ∃ a c, v = .slice a l.length c := by
  rcases h.2 with ⟨rfl, h0⟩ | ⟨g, cap, cur, rfl, _⟩
  · exact ⟨none, 0, by rw [h0]⟩
  · exact ⟨_, _, rfl⟩
theorem Row.lt (h : Row w v l) {g : Nat} (e : v.ownBlock = some g) : g < w.heap.size := (World.ownsRow.lt h g e).2
theorem Row.keep (h : Row w v l) (b : ∀ g, v.ownBlock = some g → w1.heap[g]? = w.heap[g]?) : Row w1 v l := ownsKeep h b
theorem Row.below (h : Row w v l) (b : Below w.heap.size w w1) : Row w1 v l := h.keep fun g e => b.block g (h.lt e)
theorem Row.row (h : Row w v l) (hl : 0 < l.length) : ∃ g c, v = .slice (some ⟨g, 0, none⟩) l.length c := by
  rcases h.2 with ⟨rfl, h0⟩ | ⟨g, cap, cur, rfl, _⟩
  · omega
  · exact ⟨g, cap, rfl⟩
theorem Row.blk (h : Row w (.slice (some ⟨g, 0, none⟩) n c) l) : ∃ cs, w.heap[g]? = some (.cells cs 96 (0, 0)) := by
  rcases h.2 with ⟨e, _⟩ | ⟨g', cap, cur, e, hb, hgg, _⟩
  · cases e
  · cases e
    exact ⟨cur, hgg⟩
theorem Row.cap (h : Row w (.slice (some ⟨g, 0, none⟩) n c) l) : l.length ≤ c ∧ n = l.length := by
  rcases h.2 with ⟨e, _⟩ | ⟨g', cap, cur, e, hb, hgg, h1, _⟩
  · cases e
  · cases e
    exact ⟨h1, rfl⟩
theorem Row.cells (h : Row w (.slice (some ⟨g, 0, none⟩) n c) l) {s : Stp} (hs : l[i]? = some s) : w.cell? ⟨g, i * 5, none⟩ = some (.int .i64 s.at') ∧ w.cell? ⟨g, i * 5 + 1, none⟩ = some (.int .i64 s.fr.a) ∧ w.cell? ⟨g, i * 5 + 1 + 1, none⟩ = some (.int .i64 s.fr.b) ∧ w.cell? ⟨g, i * 5 + 1 + 2, none⟩ = some (.int .i64 s.fr.c) ∧ w.cell? ⟨g, i * 5 + 1 + 3, none⟩ = some (.int .i64 s.fr.d) := by
  have key : ∀ (j : Nat) (u : Value), (flat l)[j]? = some u → w.cell? ⟨g, j, none⟩ = some u := fun j u hj => by
    have := World.ownsRow.cells h (g := g) rfl j _ hj
    rwa [Addr.add_lit, Nat.zero_add] at this
  obtain ⟨h0, h1, h2, h3, h4⟩ := flat_at hs
  exact ⟨key _ _ h0, key _ _ h1, key _ _ h2, key _ _ h3, key _ _ h4⟩
theorem Row.fz (h : Row w (.slice (some ⟨g, 0, none⟩) n c) l) (k : Nat) : w.frozen? ⟨g, k, none⟩ = false := by
  obtain ⟨cs, h⟩ := h.blk
  exact Go.Proofs.YtjgibngnjlciaaaGreat.fz h k
theorem Row.parts {v : Value} {l : List Stp} (h : Row w v l) (hl : 0 < l.length) : ∃ g c cs, v = .slice (some ⟨g, 0, none⟩) l.length c ∧ w.heap[g]? = some (.cells cs 96 (0, 0)) ∧ cs.size = c * 5 ∧ l.length ≤ c ∧ c ≤ maxLen ∧ cs.toList.take (l.length * 5) = flat l := by
  rcases h.2 with ⟨rfl, h0⟩ | ⟨g, cap, cur, rfl, hb, hgg, h1, h2, h3, h4⟩
  · omega
  · exact ⟨g, cap, cur, rfl, hgg, h3, h1, h2, h4⟩
theorem Row.of_parts {g c : Nat} {cs : Array Value} {l : List Stp} (h1 : w.heap[g]? = some (.cells cs 96 (0, 0))) (h2 : cs.size = c * 5) (h3 : l.length ≤ c) (h4 : c ≤ maxLen) (h5 : cs.toList.take (l.length * 5) = flat l) : Row w (.slice (some ⟨g, 0, none⟩) l.length c) l :=
  ⟨pflat_length l, .inr ⟨g, c, cs, rfl, Nat.zero_le _, h1, h3, h4, h2, h5⟩⟩
theorem Row.set4 (h : Row w (.slice (some ⟨g, 0, none⟩) n c) l) {s : Stp} (hs : l[i]? = some s) (v : V) :
    Row ((((w.setCell ⟨g, i * 5 + 1, none⟩ (.int .i64 v.a)).setCell ⟨g, i * 5 + 1 + 1, none⟩ (.int .i64 v.b)).setCell ⟨g, i * 5 + 1 + 2, none⟩ (.int .i64 v.c)).setCell ⟨g, i * 5 + 1 + 3, none⟩ (.int .i64 v.d)) (.slice (some ⟨g, 0, none⟩) n c) (l.set i ⟨s.at', v⟩) := by
  refine ⟨by rw [pflat_length], ?_⟩
  rcases h.2 with ⟨e, _⟩ | ⟨g', cap, cur, e, hb, hgg, h1, h2, h3, h4⟩
  · cases e
  · cases e
    refine .inr ⟨g, c, (((cur.setIfInBounds (i * 5 + 1) (.int .i64 v.a)).setIfInBounds (i * 5 + 1 + 1) (.int .i64 v.b)).setIfInBounds (i * 5 + 1 + 2) (.int .i64 v.c)).setIfInBounds (i * 5 + 1 + 3) (.int .i64 v.d), by rw [List.length_set], hb, setB (setB (setB (setB hgg _) _) _) _, by rw [List.length_set]; exact h1, h2, by simp only [Array.size_setIfInBounds]; exact h3, ?_⟩
    rw [List.length_set, Array.toList_setIfInBounds, Array.toList_setIfInBounds, Array.toList_setIfInBounds, Array.toList_setIfInBounds, List.take_set, List.take_set, List.take_set, List.take_set, h4, pflat_set]
    congr 4
    have h5 := (flat_at hs).1
    obtain ⟨h6, h7⟩ := List.getElem?_eq_some_iff.1 h5
    rw [← h7, List.set_getElem_self]
end
end Go.Proofs.YtjgibngnjlciaaaGreat
