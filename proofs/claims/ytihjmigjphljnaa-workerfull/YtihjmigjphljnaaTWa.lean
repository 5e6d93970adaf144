/-
  Rows of alarms, and the map of places.
-/
import Derived.Test.YtihjmigjphljnaaTBase
import Derived.Test.YtihjmigjphljnaaTOb
import Derived.BigRegion
import Derived.Carry
import Derived.Deep.CutBlock
import Derived.Deep.CutRange
import Derived.Deep.DeepCutAuto
import Derived.Deep.RegionHeld3
namespace Go.Proofs.Ytihjmigjphljnaa.Tk
open Go.RowKit Go.Maps Go.WideMaps

theorem less_eq (a b : List UInt8) : Op.bytesLess a b = bytesBefore a b := by
  induction a generalizing b with
  | nil => cases b <;> rfl
  | cons x r ih =>
    cases b with
    | nil => rfl
    | cons y s => unfold Op.bytesLess bytesBefore; rw [ih]
def lnV (cb : Nat) : Value := .agg #[.pointer (some ⟨cb, 1, none⟩)]

theorem cell_lt {w : World} {p : Addr} {v : Value} (h : w.cell? p = some v) : p.block < w.heap.size := by
  unfold World.cell? at h
  split at h
  · rename_i q; exact (Array.getElem?_eq_some_iff.1 q).1
  · cases h
theorem cell_eq {w w1 : World} {p : Addr} (h : w1.heap[p.block]? = w.heap[p.block]?) : w1.cell? p = w.cell? p := by unfold World.cell?; rw [h]
theorem cell_below {w w1 : World} {p : Addr} {v : Value} (h : w.cell? p = some v) (b : Below w.heap.size w w1) : w1.cell? p = some v := (cell_eq (b.block _ (cell_lt h))).trans h
theorem cell_of {w : World} {g i : Nat} {cs : Array Value} {t : TypeId} {f : Nat × Nat} (h : w.heap[g]? = some (.cells cs t f)) : w.cell? ⟨g, i, none⟩ = cs[i]? := by unfold World.cell?; rw [h]; simp


def alv (a : Al) : List Value := [.string a.nm, .int .i64 a.at']
def flat (l : List Al) : List Value := l.flatMap alv
theorem flat_nil : flat [] = [] := rfl
theorem flat_cons (a : Al) (l : List Al) : flat (a :: l) = .string a.nm :: .int .i64 a.at' :: flat l := rfl
theorem flat_append (l m : List Al) : flat (l ++ m) = flat l ++ flat m := by unfold flat; rw [List.flatMap_append]
theorem flat_length : ∀ l : List Al, (flat l).length = l.length * 2
  | [] => rfl
  | a :: l => by rw [flat_cons, List.length_cons, List.length_cons, flat_length l, List.length_cons]; omega
theorem flat_at : ∀ {l : List Al} {i : Nat} {a : Al}, l[i]? = some a → (flat l)[i * 2]? = some (.string a.nm) ∧ (flat l)[i * 2 + 1]? = some (.int .i64 a.at')
  | [], i, a, h => by simp at h
  | b :: l, 0, a, h => by simp at h; subst h; exact ⟨rfl, rfl⟩
  | b :: l, i + 1, a, h => by
    have := flat_at (l := l) (i := i) (a := a) (by simpa using h)
    rw [flat_cons, show (i + 1) * 2 = i * 2 + 2 by omega]
    exact this
theorem flat_set : ∀ (l : List Al) (i : Nat) (a : Al), flat (l.set i a) = ((flat l).set (i * 2) (.string a.nm)).set (i * 2 + 1) (.int .i64 a.at')
  | [], i, a => rfl
  | b :: l, 0, a => rfl
  | b :: l, i + 1, a => by
    rw [List.set_cons_succ, flat_cons, flat_cons, flat_set l i a, show (i + 1) * 2 = i * 2 + 1 + 1 by omega]
    rfl
theorem flat_take : ∀ (l : List Al) (n : Nat), flat (l.take n) = (flat l).take (n * 2)
  | [], n => by simp [flat]
  | b :: l, 0 => by simp [flat]
  | b :: l, n + 1 => by
    rw [List.take_succ_cons, flat_cons, flat_cons, flat_take l n, show (n + 1) * 2 = n * 2 + 1 + 1 by omega]
    rfl
/-- a row of alarms -/
def Row (w : World) (v : Value) (l : List Al) : Prop := w.ownsRow 0 79 2 v l.length (flat l)
section
variable {w w1 : World} {v : Value} {l : List Al} {g n c i : Nat}
theorem Row.nil (w : World) : Row w (.slice none 0 0) [] := World.ownsRow_nil w 0 79 2
theorem Row.shape (h : Row w v l) : ∃ a c, v = .slice a l.length c := by
  rcases h.2 with ⟨rfl, h0⟩ | ⟨g, cap, cur, rfl, _⟩
  · exact ⟨none, 0, by rw [h0]⟩
  · exact ⟨_, _, rfl⟩
theorem Row.lt (h : Row w v l) {g : Nat} (e : v.ownBlock = some g) : g < w.heap.size := (World.ownsRow.lt h g e).2
theorem Row.keep (h : Row w v l) (b : ∀ g, v.ownBlock = some g → w1.heap[g]? = w.heap[g]?) : Row w1 v l := ownsKeep h b
theorem Row.below (h : Row w v l) (b : Below w.heap.size w w1) : Row w1 v l := h.keep fun g e => b.block g (h.lt e)
theorem Row.row (h : Row w v l) (hl : 0 < l.length) : ∃ g c, v = .slice (some ⟨g, 0, none⟩) l.length c := by
  rcases h.2 with ⟨rfl, h0⟩ | ⟨g, cap, cur, rfl, _⟩
  · omega
  · exact ⟨g, cap, rfl⟩
theorem Row.blk (h : Row w (.slice (some ⟨g, 0, none⟩) n c) l) : ∃ cs, w.heap[g]? = some (.cells cs 79 (0, 0)) := by
  rcases h.2 with ⟨e, _⟩ | ⟨g', cap, cur, e, hb, hgg, _⟩
  · cases e
  · cases e
    exact ⟨cur, hgg⟩
theorem Row.cap (h : Row w (.slice (some ⟨g, 0, none⟩) n c) l) : l.length ≤ c ∧ n = l.length := by
  rcases h.2 with ⟨e, _⟩ | ⟨g', cap, cur, e, hb, hgg, h1, _⟩
  · cases e
  · cases e
    exact ⟨h1, rfl⟩
theorem Row.c0 (h : Row w (.slice (some ⟨g, 0, none⟩) n c) l) {a : Al} (ha : l[i]? = some a) : w.cell? ⟨g, i * 2, none⟩ = some (.string a.nm) := by
  have := World.ownsRow.cells h (g := g) rfl (i * 2) _ (flat_at ha).1
  rw [Addr.add_lit, Nat.zero_add] at this
  exact this
theorem Row.c1 (h : Row w (.slice (some ⟨g, 0, none⟩) n c) l) {a : Al} (ha : l[i]? = some a) : w.cell? ⟨g, i * 2 + 1, none⟩ = some (.int .i64 a.at') := by
  have := World.ownsRow.cells h (g := g) rfl (i * 2 + 1) _ (flat_at ha).2
  rw [Addr.add_lit, Nat.zero_add] at this
  exact this
theorem Row.fz (h : Row w (.slice (some ⟨g, 0, none⟩) n c) l) (k : Nat) : w.frozen? ⟨g, k, none⟩ = false := by
  obtain ⟨cs, h⟩ := h.blk
  exact Go.Proofs.Ytihjmigjphljnaa.Tk.fz h k
theorem Row.set (h : Row w (.slice (some ⟨g, 0, none⟩) n c) l) (i : Nat) (a : Al) : Row ((w.setCell ⟨g, i * 2, none⟩ (.string a.nm)).setCell ⟨g, i * 2 + 1, none⟩ (.int .i64 a.at')) (.slice (some ⟨g, 0, none⟩) n c) (l.set i a) := by
  refine ⟨by rw [flat_length], ?_⟩
  rcases h.2 with ⟨e, _⟩ | ⟨g', cap, cur, e, hb, hgg, h1, h2, h3, h4⟩
  · cases e
  · cases e
    refine .inr ⟨g, c, (cur.setIfInBounds (i * 2) (.string a.nm)).setIfInBounds (i * 2 + 1) (.int .i64 a.at'), by rw [List.length_set], hb, setB (setB hgg _) _, by rw [List.length_set]; exact h1, h2, by rw [Array.size_setIfInBounds, Array.size_setIfInBounds]; exact h3, ?_⟩
    rw [List.length_set, Array.toList_setIfInBounds, Array.toList_setIfInBounds, List.take_set, List.take_set, h4, flat_set]
theorem Row.drop (h : Row w (.slice (some ⟨g, 0, none⟩) n c) l) (m : Nat) (hm : l.length = m + 1) (u x : Value) : Row ((w.setCell ⟨g, m * 2, none⟩ u).setCell ⟨g, m * 2 + 1, none⟩ x) (.slice (some ⟨g, 0, none⟩) m c) (l.take m) := by
  have hl : (l.take m).length = m := by rw [List.length_take]; omega
  refine ⟨by rw [flat_length], ?_⟩
  rcases h.2 with ⟨e, _⟩ | ⟨g', cap, cur, e, hb, hgg, h1, h2, h3, h4⟩
  · cases e
  · cases e
    refine .inr ⟨g, c, (cur.setIfInBounds (m * 2) u).setIfInBounds (m * 2 + 1) x, by rw [hl], hb, setB (setB hgg _) _, by omega, h2, by rw [Array.size_setIfInBounds, Array.size_setIfInBounds]; exact h3, ?_⟩
    rw [hl, Array.toList_setIfInBounds, Array.toList_setIfInBounds, List.take_set_of_le (by omega), List.take_set_of_le (Nat.le_refl _), flat_take, ← h4, List.take_take]
    congr 1
    omega
end

/-! ### the map of places -/
def iE (v : Value) : Option (DataW Nat × List MemPlace) := match v with
  | .int .i64 x => some (.lit (.int .i64 x), [])
  | _ => none
theorem iE_inv {v : Value} {x : Int} {ps : List MemPlace} (h : iE v = some (.lit (.int .i64 x), ps)) : v = .int .i64 x := by
  unfold iE at h
  split at h
  · cases h; rfl
  · cases h
theorem law9 : Keyed Try.prog 9 := string_keyed Try.underlying9
theorem zero3 (w : World) : (zeroValue 3).run Try.prog w = .ok (.int .i64 0) w := by kernel_rfl
abbrev Mp (w : World) (m : Nat) (M : DataW Nat) : Prop := w.ownsMap Try.prog 9 iE m (Maps.size M) M
theorem look_at {w : World} {m : Nat} {M : DataW Nat} (h : Mp w m M) (s : ByteArray) (hs : s.size ≤ maxLen) (o : Option Nat) (ho : M.atKey (.string s.data.toList) (.lit (.int .i64 0)) = (o.elim (.lit (.int .i64 0)) fun i => .lit (.int .i64 i))) (hh : Maps.has M (.string s.data.toList) = o.isSome) :
    (Instr.lookup 59 (.map (some m)) (.string s) true).run Try.prog w = .ok (.tuple #[.int .i64 ((o.getD 0 : Nat) : Int), .bool o.isSome]) w := by
  have hkey := keyOf_string_mk (P := Try.prog) Try.underlying9 hs
  obtain ⟨v, ps, hr, hv⟩ := h.look_ok law9 Try.underlying59 (zero3 w) (zd := .lit (.int .i64 0)) (zp := []) rfl hkey
  rw [hr, hh]
  rw [ho] at hv
  cases o with
  | none => rw [iE_inv hv]; rfl
  | some i => rw [iE_inv hv]; rfl
theorem look_none (w : World) (s : ByteArray) (hs : s.size ≤ maxLen) : (Instr.lookup 59 (.map none) (.string s) true).run Try.prog w = .ok (.tuple #[.int .i64 0, .bool false]) w :=
  Maps.look_nil (w := w) true law9 Try.underlying59 (zero3 w) (keyOf_string_mk (P := Try.prog) Try.underlying9 hs)
end Go.Proofs.Ytihjmigjphljnaa.Tk
