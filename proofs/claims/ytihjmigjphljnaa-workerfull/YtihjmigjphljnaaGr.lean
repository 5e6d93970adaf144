/-
  Owned rows of things of several cells; appends to them.
-/
import Derived.Test.YtihjmigjphljnaaTWa
namespace Go.Proofs.Ytihjmigjphljnaa
open Go.RowKit Go.Maps
open Tk

theorem cs_get {α : Type} {f : α → List Value} {sz : Nat} (hf : ∀ a, (f a).length = sz) : ∀ {L : List α} {i : Nat} {o : α}, L[i]? = some o → ∀ j, j < sz → (L.flatMap f)[i * sz + j]? = (f o)[j]?
  | [], i, o, h, j, hj => by simp at h
  | a :: r, 0, o, h, j, hj => by
    have e : a = o := by simpa using h
    subst e
    rw [List.flatMap_cons, Nat.zero_mul, Nat.zero_add, List.getElem?_append_left (by rw [hf]; exact hj)]
  | a :: r, i + 1, o, h, j, hj => by
    have ih := cs_get hf (L := r) (i := i) (o := o) (by simpa using h) j hj
    rw [List.flatMap_cons, List.getElem?_append_right (by rw [hf, Nat.succ_mul]; omega), show (i + 1) * sz + j - (f a).length = i * sz + j by rw [hf, Nat.succ_mul]; omega]
    exact ih
theorem flat_length {α : Type} {f : α → List Value} {sz : Nat} (hf : ∀ a, (f a).length = sz) : ∀ L : List α, (L.flatMap f).length = L.length * sz
  | [] => by simp
  | a :: r => by rw [List.flatMap_cons, List.length_append, flat_length hf r, hf, List.length_cons, Nat.succ_mul]; omega
theorem below_grown {B : Nat} {w1 w2 : World} {r : Option Nat} (k : w1.grownBy w2 r) (hB : B ≤ w1.heap.size) (hr : ∀ g, r = some g → B ≤ g) : Below B w1 w2 :=
  ⟨k.os, k.tape, k.output, k.size, fun j hj => k.block j (Nat.lt_of_lt_of_le hj hB) fun e => by have := hr j e.symm; omega⟩
/-- a row of things, made behind b -/
def GRow {α : Type} (e sz : Nat) (f : α → List Value) (b : Nat) (w : World) (v : Value) (L : List α) : Prop := w.ownsRow b e sz v L.length (L.flatMap f)
section
variable {α : Type} {e sz : Nat} {f : α → List Value} {b : Nat} {w w1 : World} {v : Value} {L : List α}
theorem GRow.nil (e sz : Nat) (f : α → List Value) (b : Nat) (w : World) : GRow e sz f b w (.slice none 0 0) [] := World.ownsRow_nil w b e sz
theorem GRow.shape (h : GRow e sz f b w v L) : ∃ a c, v = .slice a L.length c := by
  rcases h.2 with ⟨rfl, h0⟩ | ⟨g, cap, cur, rfl, _⟩
  · exact ⟨none, 0, by rw [h0]⟩
  · exact ⟨_, _, rfl⟩
theorem GRow.lt (h : GRow e sz f b w v L) {g : Nat} (q : v.ownBlock = some g) : g < w.heap.size := (World.ownsRow.lt h g q).2
theorem GRow.ge (h : GRow e sz f b w v L) {g : Nat} (q : v.ownBlock = some g) : b ≤ g := (World.ownsRow.lt h g q).1
theorem GRow.keep (h : GRow e sz f b w v L) (k : ∀ g, v.ownBlock = some g → w1.heap[g]? = w.heap[g]?) : GRow e sz f b w1 v L := ownsKeep h k
theorem GRow.below (h : GRow e sz f b w v L) (k : Below w.heap.size w w1) : GRow e sz f b w1 v L := h.keep fun g q => k.block g (h.lt q)
theorem GRow.len {q : Option Addr} {n c : Nat} (h : GRow e sz f b w (.slice q n c) L) : n = L.length := by
  obtain ⟨a, c', q⟩ := h.shape
  injection q
/-- the cells of the i-th thing -/
theorem GRow.at {q : Option Addr} {n c : Nat} (hf : ∀ a, (f a).length = sz) (h : GRow e sz f b w (.slice q n c) L) {i : Nat} {o : α} (hi : L[i]? = some o) : ∃ g, q = some ⟨g, 0, none⟩ ∧ ∀ j u, (f o)[j]? = some u → w.cell? ⟨g, i * sz + j, none⟩ = some u := by
  have hil := (List.getElem?_eq_some_iff.1 hi).1
  rcases h.2 with ⟨e1, h0⟩ | ⟨g, cap, cur, e1, _⟩
  · omega
  · cases e1
    refine ⟨g, rfl, fun j u hu => ?_⟩
    have hj : j < sz := by have := (List.getElem?_eq_some_iff.1 hu).1; rwa [hf] at this
    have := World.ownsRow.cells h (g := g) rfl (i * sz + j) u (by rw [cs_get hf hi j hj]; exact hu)
    rwa [Addr.add_lit, Nat.zero_add] at this
end
theorem append_g {α : Type} {f : α → List Value} {t e size bytes : Nat} {z : Value} (hf : ∀ a, (f a).length = size) (h1 : ∀ a, ∀ u ∈ f a, u.oneCell' = true) (hu : Try.prog.underlying t = some (.slice e)) (hinfo : (Try.prog.info? e).map (fun i => (i.zero, i.size, i.bytes)) = some (some z, size, bytes)) (hzs : z.cells.size = size) (hsz : 0 < size)
    {ops : Array Oper} {rest : List Oper} {o : Oper} {a : Act} {Q : Exit → Act → World → Prop} {wr : World} {B : Nat} (hgd : o.guard = none) (s x : Operand) (ho : o.op = .call { callee := .builtin .append, args := #[s, x], argTypes := #[t, t] }) (p : Option Addr) (m c : Nat) (E : List α) (hs : a.eval s = .slice p m c) (hr : GRow e size f B wr (.slice p m c) E) (hB : B ≤ wr.heap.size)
    (g off n cc : Nat) (F : List α) (hx : a.eval x = .slice (some ⟨g, off, none⟩) n cc) (hn : n = F.length) (hF : RowV wr g off (F.flatMap f)) (h9 : m + n ≤ maxLen) (hb : (m + n) * bytes ≤ 140737488355328)
    (h : ∀ p3 c3 w3, GRow e size f B w3 (.slice p3 (m + n) c3) (E ++ F) → Below B wr w3 → wpList Try.prog ops Q rest (a.put o.dst (.slice p3 (m + n) c3)) w3) :
    wpList Try.prog ops Q (o :: rest) a wr := by
  have hm := hr.len
  refine append_vals (w := wr) hu hinfo hzs hsz hgd s x ho B (.slice p m c) m (E.flatMap f) hs (by have := hr; unfold GRow at this; rw [← hm] at this; exact this) g off cc n (F.flatMap f) hx (by rw [flat_length hf, hn]) hF (fun u hu => ?_) h9 hb hB fun v' w3 ho3 hg3 => ?_
  · obtain ⟨y, _, hy⟩ := List.mem_flatMap.1 hu
    exact h1 y u hy
  · have R3 : GRow e size f B w3 v' (E ++ F) := by
      unfold GRow
      rw [List.length_append, ← hm, ← hn, List.flatMap_append]
      exact ho3
    have hB3 : Below B wr w3 := below_grown hg3 hB (fun g e => hr.ge e)
    obtain ⟨p3, c3, e3⟩ := R3.shape
    rw [List.length_append, ← hm, ← hn] at e3
    subst e3
    exact h p3 c3 w3 R3 hB3
/-- a block as a row of one thing -/
theorem row_one {α : Type} {f : α → List Value} {w : World} {g : Nat} {t : TypeId} {a : α} {cs : Array Value} (h : w.heap[g]? = some (.cells cs t (0, 0))) (hc : cs.toList = f a) : RowV w g 0 ([a].flatMap f) := fun k x hk => by
  rw [List.flatMap_cons, List.flatMap_nil, List.append_nil, ← hc] at hk
  rw [Nat.zero_add, cell_of h]
  simpa using hk
end Go.Proofs.Ytihjmigjphljnaa
