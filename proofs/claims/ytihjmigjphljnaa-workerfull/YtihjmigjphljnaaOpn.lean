/-
  The laws' arguments, opened: a vector, a pair, bytes, a script.
-/
import Derived.Test.YtihjmigjphljnaaSp
import Derived.Test.YtihjmigjphljnaaVa
import Derived.ProofKit
import Derived.OpenShut
import Derived.ShutString
import Derived.SizedLaws
import Derived.ChangeMaps5
namespace Go.Proofs.Ytihjmigjphljnaa
open Go.ChangeShapes Go.WideShapes Go.ChangeAt Go.RowKit
open Tk (RowV)

theorem cellsOf2 : Try.prog.cellsOf 2 = 1 := by kernel_rfl
theorem cellsOf3 : Try.prog.cellsOf 3 = 1 := by kernel_rfl
theorem cellsOf9 : Try.prog.cellsOf 9 = 1 := by kernel_rfl
theorem cellsOf32 : Try.prog.cellsOf 32 = 4 := by kernel_rfl
theorem cellsOf34 : Try.prog.cellsOf 34 = 8 := by kernel_rfl
theorem cellsOf51 : Try.prog.cellsOf 51 = 1 := by kernel_rfl
theorem cellsOf53 : Try.prog.cellsOf 53 = 2 := by kernel_rfl
theorem laidOut : laidOutB Try.prog = true := by kernel_rfl
theorem add_plain (b off j : Nat) : (⟨b, off, none⟩ : Addr).add j = ⟨b, off + j, none⟩ := by unfold Addr.add; split <;> simp_all
def LiesV (w : World) (a : Option Addr) (xs : List Value) : Prop := xs = [] ∨ ∃ g o, a = some ⟨g, o, none⟩ ∧ RowV w g o xs
/-- every list and text within is of a size in reach -/
def Wt {H : Type} (t : TypeId) (d : DataW H) : Prop := ∀ m ∈ d.weights Try.prog t, m ≤ reachBytes
theorem weightsAll_mem {H : Type} {e : TypeId} {l : List (DataW H)} {d : DataW H} (h : d ∈ l) : ∀ n ∈ d.weights Try.prog e, n ∈ DataW.weightsAll Try.prog e l := by
  induction l with
  | nil => cases h
  | cons x r ih =>
    intro n hn
    simp only [DataW.weightsAll, List.mem_append]
    rcases List.mem_cons.1 h with rfl | h
    · exact .inl hn
    · exact .inr (ih h n hn)

theorem rowV_append {W : World} {g o : Nat} {xs ys : List Value} (h1 : RowV W g o xs) (h2 : RowV W g (o + xs.length) ys) : RowV W g o (xs ++ ys) := fun k u hu => by
  by_cases hk : k < xs.length
  · rw [List.getElem?_append_left hk] at hu
    exact h1 k u hu
  · rw [List.getElem?_append_right (by omega)] at hu
    have := h2 _ u hu
    rwa [show o + xs.length + (k - xs.length) = o + k by omega] at this



theorem Wt.field {H : Type} {t u : TypeId} {fs : Array Field} {parts : List (DataW H)} {j : Nat} {d : DataW H} (h : Wt t (.agg parts)) (ht : Try.prog.underlying t = some (.struct fs)) (hf : (fs.toList.map (·.type))[j]? = some u) (hd : parts[j]? = some d) : Wt u d := fun m hm =>
  h m (by simp only [DataW.weights, ht]; exact DataW.weights_mem_each hf hd m hm)
theorem Wt.text {H : Type} {t : TypeId} {s : ByteArray} (h : Wt (H := H) t (.lit (.string s.data.toList))) : s.size ≤ 140737488351232 := by
  have := h s.data.toList.length (by simp [DataW.weights])
  rw [Lib.size_eq]
  simpa [reachBytes] using this


theorem len8 {l : List Value} (h : l.length = 8) : ∃ c0 c1 c2 c3 c4 c5 c6 c7, l = [c0, c1, c2, c3, c4, c5, c6, c7] := by
  match l, h with
  | [c0, c1, c2, c3, c4, c5, c6, c7], _ => exact ⟨c0, c1, c2, c3, c4, c5, c6, c7, rfl⟩
theorem len4 {l : List Value} (h : l.length = 4) : ∃ c0 c1 c2 c3, l = [c0, c1, c2, c3] := by
  match l, h with
  | [c0, c1, c2, c3], _ => exact ⟨c0, c1, c2, c3, rfl⟩
/-- a script's call -/
structure Opr where
  k : Int
  nm : ByteArray
  ep : Int
  now : Int
  v : V
def Opr.cs (o : Opr) : List Value := [.int .i64 o.k, .string o.nm, .int .i64 o.ep, .int .i64 o.now, .int .i64 o.v.a, .int .i64 o.v.b, .int .i64 o.v.c, .int .i64 o.v.d]
/-- a script as it lies -/
def Scr (w : World) (q : Option Addr) (L : List Opr) : Prop := ∀ (i : Nat) (o : Opr), L[i]? = some o → ∃ g f, q = some ⟨g, f, none⟩ ∧ w.cell? ⟨g, f + i * 8, none⟩ = some (.int .i64 o.k) ∧ w.cell? ⟨g, f + i * 8 + 1, none⟩ = some (.string o.nm) ∧ w.cell? ⟨g, f + i * 8 + 2, none⟩ = some (.int .i64 o.ep) ∧ w.cell? ⟨g, f + i * 8 + 3, none⟩ = some (.int .i64 o.now) ∧ w.cell? ⟨g, f + i * 8 + 4, none⟩ = some (.int .i64 o.v.a) ∧ w.cell? ⟨g, f + i * 8 + 5, none⟩ = some (.int .i64 o.v.b) ∧ w.cell? ⟨g, f + i * 8 + 6, none⟩ = some (.int .i64 o.v.c) ∧ w.cell? ⟨g, f + i * 8 + 7, none⟩ = some (.int .i64 o.v.d)
theorem Scr.below {w w1 : World} {q : Option Addr} {L : List Opr} (h : Scr w q L) (b : Below w.heap.size w w1) : Scr w1 q L := fun i o ho => by
  obtain ⟨g, f, e, d0, d1, d2, d3, d4, d5, d6, d7⟩ := h i o ho
  exact ⟨g, f, e, Tk.cell_below d0 b, Tk.cell_below d1 b, Tk.cell_below d2 b, Tk.cell_below d3 b, Tk.cell_below d4 b, Tk.cell_below d5 b, Tk.cell_below d6 b, Tk.cell_below d7 b⟩
theorem cs_at {α : Type} {f : α → List Value} {sz : Nat} (hf : ∀ a, (f a).length = sz) : ∀ {L : List α} {i : Nat} {o : α}, L[i]? = some o → ∀ j, j < sz → (L.flatMap f)[i * sz + j]? = (f o)[j]?
  | [], i, o, h, j, hj => by simp at h
  | a :: r, 0, o, h, j, hj => by
    have e : a = o := by simpa using h
    subst e
    rw [List.flatMap_cons, Nat.zero_mul, Nat.zero_add, List.getElem?_append_left (by rw [hf]; exact hj)]
  | a :: r, i + 1, o, h, j, hj => by
    have ih := cs_at hf (L := r) (i := i) (o := o) (by simpa using h) j hj
    rw [List.flatMap_cons, List.getElem?_append_right (by rw [hf, Nat.succ_mul]; omega), show (i + 1) * sz + j - (f a).length = i * sz + j by rw [hf, Nat.succ_mul]; omega]
    exact ih
theorem lies_at {α : Type} {f : α → List Value} {sz : Nat} (hf : ∀ a, (f a).length = sz) (hz : 0 < sz) {W : World} {q : Option Addr} {L : List α} (h : LiesV W q (L.flatMap f)) {i : Nat} {o : α} (hi : L[i]? = some o) : ∃ g a, q = some ⟨g, a, none⟩ ∧ ∀ j u, (f o)[j]? = some u → W.cell? ⟨g, a + i * sz + j, none⟩ = some u := by
  rcases h with e | ⟨g, a, rfl, hr⟩
  · have := cs_at hf hi 0 hz
    rw [e, List.getElem?_nil, List.getElem?_eq_getElem (by rw [hf]; exact hz)] at this
    cases this
  · refine ⟨g, a, rfl, fun j u hu => ?_⟩
    have hj : j < sz := by have := (List.getElem?_eq_some_iff.1 hu).1; rwa [hf] at this
    have := hr (i * sz + j) u (by rw [cs_at hf hi j hj]; exact hu)
    rwa [← Nat.add_assoc] at this
section
variable {H : Type} {enc : TypeId × Value → H} {W : World} {base : Nat} {spare : Nat → Bool} {held : Bool}
/-- a number of the kind int64 -/
abbrev I64 (n : Int) : Prop := (Lit.int .i64 n).wf = true
theorem elem32 {fuel : Nat} {c0 c1 c2 c3 : Value} {x : DataW H × List MemPlace} (h : DataW.trod enc Try.prog W base spare held fuel 32 [c0, c1, c2, c3] = some x) :
    ∃ a b c d : Int, (I64 a ∧ I64 b ∧ I64 c ∧ I64 d) ∧ (c0 = .int .i64 a ∧ c1 = .int .i64 b ∧ c2 = .int .i64 c ∧ c3 = .int .i64 d) ∧ x = (.agg [.lit (.int .i64 a), .lit (.int .i64 b), .lit (.int .i64 c), .lit (.int .i64 d)], []) := by
  obtain ⟨xs, m, _, hx, _, hlen, hget⟩ := DataW.trod_array Try.underlying32 h
  have g0 := hget 0 (by omega)
  have g1 := hget 1 (by omega)
  have g2 := hget 2 (by omega)
  have g3 := hget 3 (by omega)
  match xs, hlen with
  | [x0, x1, x2, x3], _ =>
    simp only [cellsOf2, Nat.zero_mul, Nat.one_mul, Nat.reduceMul, List.drop_zero, List.drop_succ_cons, List.take_succ_cons, List.take_zero, List.getElem?_cons_zero, List.getElem?_cons_succ] at g0 g1 g2 g3
    obtain ⟨n0, e0, r0, w0⟩ := DataW.trod_int Try.underlying2 g0
    obtain ⟨n1, e1, r1, w1⟩ := DataW.trod_int Try.underlying2 g1
    obtain ⟨n2, e2, r2, w2⟩ := DataW.trod_int Try.underlying2 g2
    obtain ⟨n3, e3, r3, w3⟩ := DataW.trod_int Try.underlying2 g3
    simp only [List.cons.injEq, and_true] at e0 e1 e2 e3
    subst r0 r1 r2 r3
    exact ⟨n0, n1, n2, n3, ⟨w0, w1, w2, w3⟩, ⟨e0, e1, e2, e3⟩, hx⟩


theorem okWide_arr {n : Nat} {e t : TypeId} {P : Program} {w : World} {r : Reach} {b : Nat} {v : Value} (ht : P.underlying t = some (.array n e)) (h : Value.okWide P w r b t v) : ∃ cs, v = .agg cs ∧ cs.size = P.cellsOf t := by
  simp only [Value.okWide, ht] at h
  obtain ⟨cs, h1, h2, _⟩ := h
  exact ⟨cs, h1, h2⟩
theorem arr4 {α : Type} {cs : Array α} (h : cs.size = 4) : ∃ c0 c1 c2 c3, cs = #[c0, c1, c2, c3] := by
  obtain ⟨l⟩ := cs
  match l, h with
  | [c0, c1, c2, c3], _ => exact ⟨c0, c1, c2, c3, rfl⟩

theorem opened {α : Type} {e : TypeId} {sz n : Nat} (f : α → List Value) (hf : ∀ a, (f a).length = sz) (Q : α → DataW H → Prop)
    (elem : ∀ cs x, DataW.trod enc Try.prog W base spare held n e cs = some x → ∃ a, cs = f a ∧ Q a x.1) (b : Nat) :
    ∀ (elems : List (DataW H × List MemPlace)) (off : Nat), (∀ i, i < elems.length → (W.cells? base ⟨b, off + i * sz, none⟩ sz).bind (DataW.trod enc Try.prog W base spare held n e) = elems[i]?) →
      ∃ l : List α, l.length = elems.length ∧ RowV W b off (l.flatMap f) ∧ ∀ a ∈ l, ∃ x ∈ elems, Q a x.1
  | [], off, _ => ⟨[], rfl, fun k u hu => by simp at hu, fun a h => by cases h⟩
  | x :: r, off, h => by
    have h0 := h 0 (by simp)
    rw [List.getElem?_cons_zero, Option.bind_eq_some_iff] at h0
    obtain ⟨cs, hcs, hy⟩ := h0
    obtain ⟨_, hl, hcell⟩ := World.cells?_some hcs
    obtain ⟨a, rfl, hq⟩ := elem cs x hy
    obtain ⟨l, hll, hrow, hQ⟩ := opened f hf Q elem b r (off + sz) (fun i hi => by
      have := h (i + 1) (by simp; omega)
      rw [List.getElem?_cons_succ] at this
      rwa [show off + (i + 1) * sz = off + sz + i * sz by rw [Nat.succ_mul]; omega] at this)
    refine ⟨a :: l, by simp [hll], ?_, ?_⟩
    · rw [List.flatMap_cons]
      refine rowV_append (fun k u hu => ?_) (by rw [hf]; exact hrow)
      have hk : k < sz := by have := (List.getElem?_eq_some_iff.1 hu).1; rwa [hf] at this
      have := hcell k hk
      rw [add_plain, hu] at this
      simpa using this
    · intro a' hi
      rcases List.mem_cons.1 hi with rfl | hi
      · exact ⟨x, by simp, hq⟩
      · obtain ⟨y, hy, hq⟩ := hQ a' hi
        exact ⟨y, List.mem_cons_of_mem _ hy, hq⟩

theorem slice_row {α : Type} {e : TypeId} {sz n : Nat} (f : α → List Value) (hf : ∀ a, (f a).length = sz) (hc : Try.prog.cellsOf e = sz) (hz : 0 < sz) (Q : α → DataW H → Prop)
    (elem : ∀ cs x, DataW.trod enc Try.prog W base spare held n e cs = some x → ∃ a, cs = f a ∧ Q a x.1) (a : Addr) (elems : List (DataW H × List MemPlace))
    (hel : ∀ i, i < elems.length → (W.cells? base (a.add (i * Try.prog.cellsOf e)) (Try.prog.cellsOf e)).bind (DataW.trod enc Try.prog W base spare held n e) = elems[i]?) :
    ∃ l : List α, l.length = elems.length ∧ LiesV W (some a) (l.flatMap f) ∧ ∀ a ∈ l, ∃ x ∈ elems, Q a x.1 := by
  match elems, hel with
  | [], _ => exact ⟨[], rfl, .inl rfl, fun a h => by cases h⟩
  | x :: r, hel =>
    have h0 := hel 0 (by simp)
    rw [hc, List.getElem?_cons_zero, Option.bind_eq_some_iff] at h0
    obtain ⟨cs, hcs, hy⟩ := h0
    obtain ⟨_, hl, hcell⟩ := World.cells?_some hcs
    have k0 := hcell 0 hz
    rw [List.getElem?_eq_getElem (by omega)] at k0
    have hs : a.spot = none := by simpa [Addr.add] using World.cell?_spot k0
    obtain ⟨b, off, spot⟩ := a
    simp only at hs
    subst hs
    obtain ⟨l, h1, h2, h3⟩ := opened f hf Q elem b (x :: r) off (fun i hi => by have := hel i hi; rwa [hc, add_plain] at this)
    exact ⟨l, h1, .inr ⟨b, off, rfl, h2⟩, h3⟩

theorem open_list {α : Type} {t e : TypeId} {sz fuel : Nat} (ht : Try.prog.underlying t = some (.slice e)) (f : α → List Value) (hf : ∀ a, (f a).length = sz) (hc : Try.prog.cellsOf e = sz) (hz : 0 < sz) (Q : α → DataW H → Prop)
    (elem : ∀ n cs x, DataW.trod enc Try.prog W base spare held n e cs = some x → ∃ a, cs = f a ∧ Q a x.1) {v : Value} {x : DataW H × List MemPlace} (h : DataW.trod enc Try.prog W base spare held fuel t [v] = some x) :
    ∃ (q : Option Addr) (c : Nat) (l : List α), v = .slice q l.length c ∧ LiesV W q (l.flatMap f) ∧ (Wt t x.1 → l.length * Try.prog.bytesOf e ≤ 140737488351232) ∧ (∀ a ∈ l, ∃ d, Q a d ∧ (Wt t x.1 → Wt e d)) ∧ l.length ≤ maxLen := by
  rcases DataW.trod_slice ht h with ⟨hcs, hx⟩ | ⟨a, len', cap', elems, rest, n, _, hcs, hx, _, hl, hm, hlen, hel, _, _⟩
  · simp only [List.cons.injEq, and_true] at hcs
    subst hcs
    exact ⟨none, 0, [], rfl, .inl rfl, fun _ => by simp, (fun a h => by cases h), Nat.zero_le _⟩
  · simp only [List.cons.injEq, and_true] at hcs
    subst hcs hx hlen
    obtain ⟨l, h1, h2, h3⟩ := slice_row f hf hc hz Q (elem n) a elems hel
    refine ⟨some a, cap', l, by rw [h1], h2, fun hw => ?_, fun a' ha => ?_, by omega⟩
    · have := hw ((elems.map (·.1)).length + (rest.map (·.1)).length |> (· * Try.prog.bytesOf e)) (by simp [DataW.weights, ht])
      simp only [List.length_map, reachBytes] at this
      rw [h1]
      exact Nat.le_trans (Nat.mul_le_mul_right _ (Nat.le_add_right _ _)) this
    · obtain ⟨y, hy, hq⟩ := h3 a' ha
      refine ⟨y.1, hq, fun hw m hm => hw m ?_⟩
      have := weightsAll_mem (List.mem_map_of_mem (f := (·.1)) hy) m hm
      simp only [DataW.weights, ht, List.mem_cons, List.mem_append]
      exact .inr (.inl this)

set_option maxRecDepth 100000 in
theorem open_vec {r : Reach} {b0 : Nat} {v : Value} {x : DataW H} {p : List MemPlace} (hv : Value.okWide Try.prog W r b0 32 v) (h : DataW.Trod enc Try.prog W base spare held 32 v x p) :
    ∃ k : V, v = .agg #[.int .i64 k.a, .int .i64 k.b, .int .i64 k.c, .int .i64 k.d] := by
  obtain ⟨cs, rfl, hsz⟩ := okWide_arr Try.underlying32 hv
  obtain ⟨c0, c1, c2, c3, rfl⟩ := arr4 (hsz.trans cellsOf32)
  obtain ⟨fuel, hf⟩ := h
  obtain ⟨a, b, c, d, _, ⟨rfl, rfl, rfl, rfl⟩, _⟩ := elem32 (c0 := c0) (c1 := c1) (c2 := c2) (c3 := c3) hf
  exact ⟨⟨a, b, c, d⟩, rfl⟩

theorem trod_struct5 {P : Program} {t : TypeId} {f0 f1 f2 f3 f4 : Field} {fuel : Nat} {cs : List Value} {x : DataW H × List MemPlace} (ht : P.underlying t = some (.struct #[f0, f1, f2, f3, f4])) (h : DataW.trod enc P W base spare held fuel t cs = some x) :
    ∃ y0 y1 y2 y3 y4 n, x.1 = .agg [y0.1, y1.1, y2.1, y3.1, y4.1] ∧ cs.length = P.cellsOf t ∧ DataW.trod enc P W base spare held n f0.type ((cs.drop f0.offset).take (P.cellsOf f0.type)) = some y0 ∧ DataW.trod enc P W base spare held n f1.type ((cs.drop f1.offset).take (P.cellsOf f1.type)) = some y1 ∧ DataW.trod enc P W base spare held n f2.type ((cs.drop f2.offset).take (P.cellsOf f2.type)) = some y2 ∧ DataW.trod enc P W base spare held n f3.type ((cs.drop f3.offset).take (P.cellsOf f3.type)) = some y3 ∧ DataW.trod enc P W base spare held n f4.type ((cs.drop f4.offset).take (P.cellsOf f4.type)) = some y4 := by
  obtain ⟨xs, n, _, rfl, hl, hlen, hf⟩ := DataW.trod_struct ht h
  match xs, hlen with
  | [y0, y1, y2, y3, y4], _ => exact ⟨y0, y1, y2, y3, y4, n, rfl, hl, by simpa using hf 0 f0 rfl, by simpa using hf 1 f1 rfl, by simpa using hf 2 f2 rfl, by simpa using hf 3 f3 rfl, by simpa using hf 4 f4 rfl⟩
/-- what is known of a script's call beside its cells -/
def OpK (o : Opr) (d : DataW H) : Prop := (I64 o.ep ∧ I64 o.now) ∧ (Wt 34 d → o.nm.size ≤ 140737488351232)
set_option maxRecDepth 100000 in
theorem elem34 {fuel : Nat} {cs : List Value} {x : DataW H × List MemPlace} (h : DataW.trod enc Try.prog W base spare held fuel 34 cs = some x) : ∃ o : Opr, cs = o.cs ∧ OpK o x.1 := by
  obtain ⟨y0, y1, y2, y3, y4, n, hx, hl, h0, h1, h2, h3, h4⟩ := trod_struct5 Try.underlying34 h
  rw [cellsOf34] at hl
  obtain ⟨c0, c1, c2, c3, c4, c5, c6, c7, rfl⟩ := len8 hl
  simp only [List.drop_zero, List.drop_succ_cons, cellsOf3, cellsOf9, cellsOf2, cellsOf32, List.take_succ_cons, List.take_zero] at h0 h1 h2 h3 h4
  obtain ⟨n0, e0, _, _⟩ := DataW.trod_int Try.underlying3 h0
  obtain ⟨s, e1, r1, _⟩ := DataW.trod_string Try.underlying9 h1
  obtain ⟨n2, e2, _, w2⟩ := DataW.trod_int Try.underlying2 h2
  obtain ⟨n3, e3, _, w3⟩ := DataW.trod_int Try.underlying2 h3
  obtain ⟨a, b, c, d, _, ⟨rfl, rfl, rfl, rfl⟩, _⟩ := elem32 h4
  simp only [List.cons.injEq, and_true] at e0 e1 e2 e3
  refine ⟨⟨n0, s, n2, n3, ⟨a, b, c, d⟩⟩, by rw [e0, e1, e2, e3]; rfl, ⟨w2, w3⟩, fun hw => ?_⟩
  rw [hx] at hw
  have k1 : Wt 9 y1.1 := Wt.field (j := 1) hw Try.underlying34 rfl rfl
  rw [r1] at k1
  exact k1.text
set_option maxRecDepth 100000 in
theorem open_script {v : Value} {x : DataW H} {p : List MemPlace} {r : Reach} {b0 : Nat} (hv : Value.okWide Try.prog W r b0 22 v) (h : DataW.Trod enc Try.prog W base spare held 22 v x p) :
    ∃ (q : Option Addr) (c : Nat) (L : List Opr), v = .slice q L.length c ∧ Scr W q L ∧ (Wt 22 x → ∀ o ∈ L, o.nm.size ≤ 140737488351232) ∧ L.length ≤ maxLen ∧ ∀ o ∈ L, I64 o.ep ∧ I64 o.now := by
  obtain ⟨a0, len, cap, rfl⟩ := okWide_slice Try.underlying22 hv
  obtain ⟨fuel, hf⟩ := h
  obtain ⟨q, c, L, h1, h2, _, h4, h5⟩ := open_list Try.underlying22 Opr.cs (fun _ => rfl) cellsOf34 (by decide) (fun o d => OpK o d) (fun n cs x h => elem34 h) (show DataW.trod enc Try.prog W base spare held fuel 22 [.slice a0 len cap] = some (x, p) from hf)
  refine ⟨q, c, L, h1, fun i o ho => ?_, fun hw o ho => ?_, h5, fun o ho => ?_⟩
  · obtain ⟨g, a, rfl, hk⟩ := lies_at (f := Opr.cs) (sz := 8) (fun _ => rfl) (by decide) h2 ho
    exact ⟨g, a, rfl, hk 0 _ rfl, hk 1 _ rfl, hk 2 _ rfl, hk 3 _ rfl, hk 4 _ rfl, hk 5 _ rfl, hk 6 _ rfl, hk 7 _ rfl⟩
  · obtain ⟨d, hd, hq⟩ := h4 o ho
    exact hd.2 (hq hw)
  · obtain ⟨d, hd, _⟩ := h4 o ho
    exact hd.1
theorem arr2 {α : Type} {cs : Array α} (h : cs.size = 2) : ∃ c0 c1, cs = #[c0, c1] := by
  obtain ⟨l⟩ := cs
  match l, h with
  | [c0, c1], _ => exact ⟨c0, c1, rfl⟩
set_option maxRecDepth 100000 in
theorem open_pair {r : Reach} {b0 : Nat} {v : Value} {x : DataW H} {p : List MemPlace} (hv : Value.okWide Try.prog W r b0 53 v) (h : DataW.Trod enc Try.prog W base spare held 53 v x p) :
    ∃ e l : Nat, v = .agg #[.int .u32 e, .int .u32 l] ∧ e < 4294967296 ∧ l < 4294967296 := by
  obtain ⟨cs, rfl, hsz⟩ := okWide_arr Try.underlying53 hv
  obtain ⟨c0, c1, rfl⟩ := arr2 (hsz.trans cellsOf53)
  obtain ⟨fuel, hf⟩ := h
  obtain ⟨xs, m, _, hx, _, hlen, hget⟩ := DataW.trod_array Try.underlying53 hf
  have g0 := hget 0 (by omega)
  have g1 := hget 1 (by omega)
  match xs, hlen with
  | [x0, x1], _ =>
    simp only [cellsOf51, Nat.zero_mul, Nat.one_mul, List.drop_zero, List.drop_succ_cons, List.take_succ_cons, List.take_zero, List.getElem?_cons_zero, List.getElem?_cons_succ, Value.cells] at g0 g1
    obtain ⟨n0, e0, r0, w0⟩ := DataW.trod_int Try.underlying51 g0
    obtain ⟨n1, e1, r1, w1⟩ := DataW.trod_int Try.underlying51 g1
    simp only [List.cons.injEq, and_true] at e0 e1
    have h0 : 0 ≤ n0 ∧ n0 ≤ 4294967295 := by simpa [Lit.wf, IntKind.min, IntKind.max, IntKind.signed, IntKind.bits] using w0
    have h1 : 0 ≤ n1 ∧ n1 ≤ 4294967295 := by simpa [Lit.wf, IntKind.min, IntKind.max, IntKind.signed, IntKind.bits] using w1
    refine ⟨n0.toNat, n1.toNat, ?_, by omega, by omega⟩
    rw [e0, e1, Int.toNat_of_nonneg h0.1, Int.toNat_of_nonneg h1.1]
set_option maxRecDepth 100000 in
theorem open_bytes {tb eb : TypeId} (ht : Try.prog.underlying tb = some (.slice eb)) (he : Try.prog.underlying eb = some (.int .u8)) (hc : Try.prog.cellsOf eb = 1) {v : Value} {x : DataW H} {p : List MemPlace} {r : Reach} {b0 : Nat} (hv : Value.okWide Try.prog W r b0 tb v) (h : DataW.Trod enc Try.prog W base spare held tb v x p) :
    ∃ (q : Option Addr) (c : Nat) (L : List Nat), v = .slice q L.length c ∧ (∀ (i : Nat) (b : Nat), L[i]? = some b → b < 256 ∧ ∃ g a, q = some ⟨g, a, none⟩ ∧ W.cell? ⟨g, a + i, none⟩ = some (.int .u8 b)) ∧ L.length ≤ maxLen := by
  obtain ⟨a0, len, cap, rfl⟩ := okWide_slice ht hv
  obtain ⟨fuel, hf⟩ := h
  obtain ⟨q, c, L, h1, h2, _, h4, h5⟩ := open_list ht (fun b : Nat => [.int .u8 (b : Int)]) (fun _ => rfl) hc (by decide) (fun b _ => b < 256) (fun n cs x h => by
    obtain ⟨n0, e0, r0, w0⟩ := DataW.trod_int he h
    have h0 : 0 ≤ n0 ∧ n0 ≤ 255 := by simpa [Lit.wf, IntKind.min, IntKind.max, IntKind.signed, IntKind.bits] using w0
    refine ⟨n0.toNat, ?_, by omega⟩
    rw [e0, Int.toNat_of_nonneg h0.1]) (show DataW.trod enc Try.prog W base spare held fuel tb [.slice a0 len cap] = some (x, p) from hf)
  refine ⟨q, c, L, h1, fun i b hb => ?_, h5⟩
  obtain ⟨g, a, rfl, hk⟩ := lies_at (f := fun b : Nat => [.int .u8 (b : Int)]) (sz := 1) (fun _ => rfl) (by decide) h2 hb
  obtain ⟨d, hd, _⟩ := h4 b (List.mem_of_getElem? hb)
  have := hk 0 _ rfl
  simp only [Nat.mul_one, Nat.add_zero] at this
  exact ⟨hd, g, a, rfl, this⟩
end
end Go.Proofs.Ytihjmigjphljnaa
