/-
  The laws' argument, opened: a record as plain data.
-/
import Derived.Test.YtnkkiepoljbhlaaLwj
import Derived.ProofKit
import Derived.OpenShut
import Derived.ShutString
import Derived.SizedLaws
namespace Go.Proofs.Ytnkkiepoljbhlaa
open Go.ChangeShapes Go.WideShapes Go.ChangeAt Go.RowKit

theorem cellsOf3 : Try.prog.cellsOf 3 = 1 := by kernel_rfl
theorem cellsOf2 : Try.prog.cellsOf 2 = 1 := by kernel_rfl
theorem cellsOf9 : Try.prog.cellsOf 9 = 1 := by kernel_rfl
theorem cellsOf23 : Try.prog.cellsOf 23 = 4 := by kernel_rfl
theorem cellsOf25 : Try.prog.cellsOf 25 = 6 := by kernel_rfl
theorem cellsOf26 : Try.prog.cellsOf 26 = 1 := by kernel_rfl
theorem cellsOf27 : Try.prog.cellsOf 27 = 1 := by kernel_rfl
theorem cellsOf28 : Try.prog.cellsOf 28 = 1 := by kernel_rfl
theorem cellsOf30 : Try.prog.cellsOf 30 = 11 := by kernel_rfl
theorem cellsOf32 : Try.prog.cellsOf 32 = 27 := by kernel_rfl
theorem laidOut : laidOutB Try.prog = true := by kernel_rfl
theorem add_plain (b off j : Nat) : (⟨b, off, none⟩ : Addr).add j = ⟨b, off + j, none⟩ := by unfold Addr.add; split <;> simp_all

theorem bytesOf2 : Try.prog.bytesOf 2 = 8 := by kernel_rfl
theorem bytesOf9 : Try.prog.bytesOf 9 = 16 := by kernel_rfl
theorem bytesOf23 : Try.prog.bytesOf 23 = 32 := by kernel_rfl
/-- every list and text within is of a size in reach -/
def Wt {H : Type} (t : TypeId) (d : DataW H) : Prop := ∀ m ∈ d.weights Try.prog t, m ≤ reachBytes
theorem weightsAll_mem {H : Type} {e : TypeId} {l : List (DataW H)} {d : DataW H} (h : d ∈ l) : ∀ n ∈ d.weights Try.prog e, n ∈ DataW.weightsAll Try.prog e l := by
  induction l with
  | nil => cases h
  | cons x r ih =>
    intro n hn
    simp only [DataW.weightsAll, List.mem_append]
    rcases List.mem_cons.1 h with rfl | h
    · exact .inl hn
    · exact .inr (ih h n hn)
theorem Wt.field {H : Type} {t u : TypeId} {fs : Array Field} {parts : List (DataW H)} {j : Nat} {d : DataW H} (h : Wt t (.agg parts)) (ht : Try.prog.underlying t = some (.struct fs)) (hf : (fs.toList.map (·.type))[j]? = some u) (hd : parts[j]? = some d) : Wt u d := fun m hm =>
  h m (by simp only [DataW.weights, ht]; exact DataW.weights_mem_each hf hd m hm)
theorem Wt.text {H : Type} {t : TypeId} {s : ByteArray} (h : Wt (H := H) t (.lit (.string s.data.toList))) : s.size ≤ 140737488351232 := by
  have := h s.data.toList.length (by simp [DataW.weights])
  rw [Lib.size_eq]
  simpa [reachBytes] using this

theorem rowV_append {W : World} {g o : Nat} {xs ys : List Value} (h1 : RowV W g o xs) (h2 : RowV W g (o + xs.length) ys) : RowV W g o (xs ++ ys) := fun k u hu => by
  by_cases hk : k < xs.length
  · rw [List.getElem?_append_left hk] at hu
    exact h1 k u hu
  · rw [List.getElem?_append_right (by omega)] at hu
    have := h2 _ u hu
    rwa [show o + xs.length + (k - xs.length) = o + k by omega] at this

section
variable {H : Type} {enc : TypeId × Value → H} {W : World} {base : Nat} {spare : Nat → Bool} {held : Bool}

theorem opened {α : Type} {e : TypeId} {sz n : Nat} (f : α → List Value) (hf : ∀ a, (f a).length = sz) (Q : α → DataW H → Prop)
    (elem : ∀ cs x, DataW.trod enc Try.prog W base spare held n e cs = some x → ∃ a, cs = f a ∧ Q a x.1) (b : Nat) :
    ∀ (elems : List (DataW H × List MemPlace)) (off : Nat), (∀ i, i < elems.length → (W.cells? base ⟨b, off + i * sz, none⟩ sz).bind (DataW.trod enc Try.prog W base spare held n e) = elems[i]?) →
      ∃ l : List α, l.length = elems.length ∧ RowV W b off (l.flatMap f) ∧ ∀ a ∈ l, ∃ x ∈ elems, Q a x.1
  | [], off, _ => ⟨[], rfl, fun k u hu => by simp at hu, fun a h => by cases h⟩
  | x :: r, off, h => by
    have h0 := h 0 (by simp)
    rw [List.getElem?_cons_zero, Option.bind_eq_some_iff] at h0
    obtain ⟨cs, hcs, hy⟩ := h0
    obtain ⟨_, hl, hcell⟩ := World.cells?_some hcs
    obtain ⟨a, rfl, hq⟩ := elem cs x hy
    obtain ⟨l, hll, hrow, hQ⟩ := opened f hf Q elem b r (off + sz) (fun i hi => by
      have := h (i + 1) (by simp; omega)
      rw [List.getElem?_cons_succ] at this
      rwa [show off + (i + 1) * sz = off + sz + i * sz by rw [Nat.succ_mul]; omega] at this)
    refine ⟨a :: l, by simp [hll], ?_, ?_⟩
    · rw [List.flatMap_cons]
      refine rowV_append (fun k u hu => ?_) (by rw [hf]; exact hrow)
      have hk : k < sz := by have := (List.getElem?_eq_some_iff.1 hu).1; rwa [hf] at this
      have := hcell k hk
      rw [add_plain, hu] at this
      simpa using this
    · intro a' hi
      rcases List.mem_cons.1 hi with rfl | hi
      · exact ⟨x, by simp, hq⟩
      · obtain ⟨y, hy, hq⟩ := hQ a' hi
        exact ⟨y, List.mem_cons_of_mem _ hy, hq⟩

theorem slice_row {α : Type} {e : TypeId} {sz n : Nat} (f : α → List Value) (hf : ∀ a, (f a).length = sz) (hc : Try.prog.cellsOf e = sz) (hz : 0 < sz) (Q : α → DataW H → Prop)
    (elem : ∀ cs x, DataW.trod enc Try.prog W base spare held n e cs = some x → ∃ a, cs = f a ∧ Q a x.1) (a : Addr) (elems : List (DataW H × List MemPlace))
    (hel : ∀ i, i < elems.length → (W.cells? base (a.add (i * Try.prog.cellsOf e)) (Try.prog.cellsOf e)).bind (DataW.trod enc Try.prog W base spare held n e) = elems[i]?) :
    ∃ l : List α, l.length = elems.length ∧ LiesV W (some a) (l.flatMap f) ∧ ∀ a ∈ l, ∃ x ∈ elems, Q a x.1 := by
  match elems, hel with
  | [], _ => exact ⟨[], rfl, .inl rfl, fun a h => by cases h⟩
  | x :: r, hel =>
    have h0 := hel 0 (by simp)
    rw [hc, List.getElem?_cons_zero, Option.bind_eq_some_iff] at h0
    obtain ⟨cs, hcs, hy⟩ := h0
    obtain ⟨_, hl, hcell⟩ := World.cells?_some hcs
    have k0 := hcell 0 hz
    rw [List.getElem?_eq_getElem (by omega)] at k0
    have hs : a.spot = none := by simpa [Addr.add] using World.cell?_spot k0
    obtain ⟨b, off, spot⟩ := a
    simp only at hs
    subst hs
    obtain ⟨l, h1, h2, h3⟩ := opened f hf Q elem b (x :: r) off (fun i hi => by have := hel i hi; rwa [hc, add_plain] at this)
    exact ⟨l, h1, .inr ⟨b, off, rfl, h2⟩, h3⟩

theorem open_list {α : Type} {t e : TypeId} {sz fuel : Nat} (ht : Try.prog.underlying t = some (.slice e)) (f : α → List Value) (hf : ∀ a, (f a).length = sz) (hc : Try.prog.cellsOf e = sz) (hz : 0 < sz) (Q : α → DataW H → Prop)
    (elem : ∀ n cs x, DataW.trod enc Try.prog W base spare held n e cs = some x → ∃ a, cs = f a ∧ Q a x.1) {v : Value} {x : DataW H × List MemPlace} (h : DataW.trod enc Try.prog W base spare held fuel t [v] = some x) :
    ∃ (s : SL) (l : List α), v = .slice s.a s.n s.c ∧ SLh W s l.length (l.flatMap f) ∧ (Wt t x.1 → l.length * Try.prog.bytesOf e ≤ 140737488351232) ∧ ∀ a ∈ l, ∃ d, Q a d ∧ (Wt t x.1 → Wt e d) := by
  rcases DataW.trod_slice ht h with ⟨hcs, hx⟩ | ⟨a, len', cap', elems, rest, n, _, hcs, hx, _, hl, hm, hlen, hel, _, _⟩
  · simp only [List.cons.injEq, and_true] at hcs
    subst hcs
    exact ⟨⟨none, 0, 0⟩, [], rfl, ⟨.inl rfl, rfl, fun _ => ⟨rfl, rfl, rfl⟩⟩, fun _ => by simp, fun a h => by cases h⟩
  · simp only [List.cons.injEq, and_true] at hcs
    subst hcs hx hlen
    obtain ⟨l, h1, h2, h3⟩ := slice_row f hf hc hz Q (elem n) a elems hel
    refine ⟨⟨some a, elems.length, cap'⟩, l, rfl, ⟨h2, h1.symm, fun e => by cases e⟩, fun hw => ?_, fun a' ha => ?_⟩
    · have := hw ((elems.map (·.1)).length + (rest.map (·.1)).length |> (· * Try.prog.bytesOf e)) (by simp [DataW.weights, ht])
      simp only [List.length_map, reachBytes] at this
      rw [h1]
      exact Nat.le_trans (Nat.mul_le_mul_right _ (Nat.le_add_right _ _)) this
    · obtain ⟨y, hy, hq⟩ := h3 a' ha
      refine ⟨y.1, hq, fun hw m hm => hw m ?_⟩
      have := weightsAll_mem (List.mem_map_of_mem (f := (·.1)) hy) m hm
      simp only [DataW.weights, ht, List.mem_cons, List.mem_append]
      exact .inr (.inl this)

theorem flat_bind (l : List V4) : l.flatMap (fun v => [.int .i64 v.a, .int .i64 v.b, .int .i64 v.c, .int .i64 v.d]) = flat l := by
  induction l with
  | nil => rfl
  | cons v l ih => rw [List.flatMap_cons, ih]; rfl
theorem len4 {l : List Value} (h : l.length = 4) : ∃ c0 c1 c2 c3, l = [c0, c1, c2, c3] := by
  match l, h with
  | [c0, c1, c2, c3], _ => exact ⟨c0, c1, c2, c3, rfl⟩
set_option maxRecDepth 100000 in
theorem elem23 {fuel : Nat} {cs : List Value} {x : DataW H × List MemPlace} (h : DataW.trod enc Try.prog W base spare held fuel 23 cs = some x) :
    ∃ v : V4, cs = [.int .i64 v.a, .int .i64 v.b, .int .i64 v.c, .int .i64 v.d] := by
  obtain ⟨xs, m, _, hx, hcl, hlen, hget⟩ := DataW.trod_array Try.underlying23 h
  rw [cellsOf23] at hcl
  have g0 := hget 0 (by omega)
  have g1 := hget 1 (by omega)
  have g2 := hget 2 (by omega)
  have g3 := hget 3 (by omega)
  obtain ⟨c0, c1, c2, c3, rfl⟩ := len4 hcl
  match xs, hlen with
  | [x0, x1, x2, x3], _ =>
    simp only [cellsOf2, Nat.zero_mul, Nat.one_mul, Nat.reduceMul, List.drop_zero, List.drop_succ_cons, List.take_succ_cons, List.take_zero, List.getElem?_cons_zero, List.getElem?_cons_succ] at g0 g1 g2 g3
    obtain ⟨n0, e0, r0, w0⟩ := DataW.trod_int Try.underlying2 g0
    obtain ⟨n1, e1, r1, w1⟩ := DataW.trod_int Try.underlying2 g1
    obtain ⟨n2, e2, r2, w2⟩ := DataW.trod_int Try.underlying2 g2
    obtain ⟨n3, e3, r3, w3⟩ := DataW.trod_int Try.underlying2 g3
    simp only [List.cons.injEq, and_true] at e0 e1 e2 e3
    subst e0 e1 e2 e3
    exact ⟨⟨n0, n1, n2, n3⟩, rfl⟩

theorem open_ints {fuel : Nat} {v : Value} {x : DataW H × List MemPlace} (h : DataW.trod enc Try.prog W base spare held fuel 26 [v] = some x) :
    ∃ (s : SL) (l : List Int), v = .slice s.a s.n s.c ∧ SLh W s l.length (intsV l) ∧ (Wt 26 x.1 → l.length ≤ 17592186044416) := by
  obtain ⟨s, l, h1, h2, h3, _⟩ := open_list Try.underlying26 (fun n : Int => [.int .i64 n]) (fun _ => rfl) cellsOf2 Nat.one_pos (fun _ _ => True) (fun n cs x h => by obtain ⟨m, e, _, _⟩ := DataW.trod_int Try.underlying2 h; exact ⟨m, e, trivial⟩) h
  have e : l.flatMap (fun n : Int => [Value.int .i64 n]) = intsV l := by unfold intsV; rw [← List.map_eq_flatMap]
  exact ⟨s, l, h1, e ▸ h2, fun hw => by have := h3 hw; rw [bytesOf2] at this; omega⟩
theorem open_vecs {fuel : Nat} {v : Value} {x : DataW H × List MemPlace} (h : DataW.trod enc Try.prog W base spare held fuel 27 [v] = some x) :
    ∃ (s : SL) (l : List V4), v = .slice s.a s.n s.c ∧ SLh W s l.length (flat l) ∧ (Wt 27 x.1 → l.length ≤ 4398046511104) := by
  obtain ⟨s, l, h1, h2, h3, _⟩ := open_list Try.underlying27 (fun v : V4 => [.int .i64 v.a, .int .i64 v.b, .int .i64 v.c, .int .i64 v.d]) (fun _ => rfl) cellsOf23 (Nat.succ_pos 3) (fun _ _ => True) (fun n cs x h => by obtain ⟨m, e⟩ := elem23 h; exact ⟨m, e, trivial⟩) h
  exact ⟨s, l, h1, flat_bind l ▸ h2, fun hw => by have := h3 hw; rw [bytesOf23] at this; omega⟩
theorem open_texts {fuel : Nat} {v : Value} {x : DataW H × List MemPlace} (h : DataW.trod enc Try.prog W base spare held fuel 28 [v] = some x) :
    ∃ (s : SL) (l : List ByteArray), v = .slice s.a s.n s.c ∧ SLh W s l.length (textsV l) ∧ (Wt 28 x.1 → l.length ≤ 8796093022208) ∧ (Wt 28 x.1 → ∀ t ∈ l, t.size ≤ 281474976710656) := by
  obtain ⟨s, l, h1, h2, h3, h4⟩ := open_list Try.underlying28 (fun t : ByteArray => [.string t]) (fun _ => rfl) cellsOf9 Nat.one_pos (fun t d => d = .lit (.string t.data.toList)) (fun n cs x h => by
    obtain ⟨m, e, rfl, _⟩ := DataW.trod_string Try.underlying9 h
    exact ⟨m, e, rfl⟩) h
  have e : l.flatMap (fun t : ByteArray => [Value.string t]) = textsV l := by unfold textsV; rw [← List.map_eq_flatMap]
  exact ⟨s, l, h1, e ▸ h2, fun hw => by have := h3 hw; rw [bytesOf9] at this; omega, fun hw t ht => by obtain ⟨d, rfl, hb⟩ := h4 t ht; have := (hb hw).text; omega⟩

set_option linter.unusedSimpArgs false in
set_option maxRecDepth 100000 in
theorem open_job {fuel : Nat} {c0 c1 c2 c3 c4 c5 c6 c7 c8 c9 c10 : Value} {x : DataW H × List MemPlace} (h : DataW.trod enc Try.prog W base spare held fuel 30 [c0, c1, c2, c3, c4, c5, c6, c7, c8, c9, c10] = some x) :
    ∃ (j : JB) (L : JL), #[c0, c1, c2, c3, c4, c5, c6, c7, c8, c9, c10] = j.cells ∧ j.has W L ∧ (Wt 30 x.1 → Fits j L) := by
  obtain ⟨xs, m, _, rfl, hcl, hlen, hget⟩ := DataW.trod_struct Try.underlying30 h
  have g0 : DataW.trod enc Try.prog W base spare held m 2 (List.take (Try.prog.cellsOf 2) (List.drop 0 [c0, c1, c2, c3, c4, c5, c6, c7, c8, c9, c10])) = xs[0]? := hget 0 _ rfl
  have g1 : DataW.trod enc Try.prog W base spare held m 9 (List.take (Try.prog.cellsOf 9) (List.drop 1 [c0, c1, c2, c3, c4, c5, c6, c7, c8, c9, c10])) = xs[1]? := hget 1 _ rfl
  have g2 : DataW.trod enc Try.prog W base spare held m 2 (List.take (Try.prog.cellsOf 2) (List.drop 2 [c0, c1, c2, c3, c4, c5, c6, c7, c8, c9, c10])) = xs[2]? := hget 2 _ rfl
  have g3 : DataW.trod enc Try.prog W base spare held m 2 (List.take (Try.prog.cellsOf 2) (List.drop 3 [c0, c1, c2, c3, c4, c5, c6, c7, c8, c9, c10])) = xs[3]? := hget 3 _ rfl
  have g4 : DataW.trod enc Try.prog W base spare held m 26 (List.take (Try.prog.cellsOf 26) (List.drop 4 [c0, c1, c2, c3, c4, c5, c6, c7, c8, c9, c10])) = xs[4]? := hget 4 _ rfl
  have g5 : DataW.trod enc Try.prog W base spare held m 27 (List.take (Try.prog.cellsOf 27) (List.drop 5 [c0, c1, c2, c3, c4, c5, c6, c7, c8, c9, c10])) = xs[5]? := hget 5 _ rfl
  have g6 : DataW.trod enc Try.prog W base spare held m 3 (List.take (Try.prog.cellsOf 3) (List.drop 6 [c0, c1, c2, c3, c4, c5, c6, c7, c8, c9, c10])) = xs[6]? := hget 6 _ rfl
  have g7 : DataW.trod enc Try.prog W base spare held m 2 (List.take (Try.prog.cellsOf 2) (List.drop 7 [c0, c1, c2, c3, c4, c5, c6, c7, c8, c9, c10])) = xs[7]? := hget 7 _ rfl
  have g8 : DataW.trod enc Try.prog W base spare held m 28 (List.take (Try.prog.cellsOf 28) (List.drop 8 [c0, c1, c2, c3, c4, c5, c6, c7, c8, c9, c10])) = xs[8]? := hget 8 _ rfl
  have g9 : DataW.trod enc Try.prog W base spare held m 2 (List.take (Try.prog.cellsOf 2) (List.drop 9 [c0, c1, c2, c3, c4, c5, c6, c7, c8, c9, c10])) = xs[9]? := hget 9 _ rfl
  have g10 : DataW.trod enc Try.prog W base spare held m 28 (List.take (Try.prog.cellsOf 28) (List.drop 10 [c0, c1, c2, c3, c4, c5, c6, c7, c8, c9, c10])) = xs[10]? := hget 10 _ rfl
  match xs, hlen with
  | [x0, x1, x2, x3, x4, x5, x6, x7, x8, x9, x10], _ =>
    simp only [cellsOf2, cellsOf3, cellsOf9, cellsOf23, cellsOf25, cellsOf26, cellsOf27, cellsOf28, cellsOf30, List.drop_zero, List.drop_succ_cons, List.take_succ_cons, List.take_zero, List.getElem?_cons_zero, List.getElem?_cons_succ] at  g0 g1 g2 g3 g4 g5 g6 g7 g8 g9 g10
    obtain ⟨n0, e0, _, _⟩ := DataW.trod_int Try.underlying2 g0
    obtain ⟨n1, e1, r1, _⟩ := DataW.trod_string Try.underlying9 g1
    obtain ⟨n2, e2, _, _⟩ := DataW.trod_int Try.underlying2 g2
    obtain ⟨n3, e3, _, _⟩ := DataW.trod_int Try.underlying2 g3
    obtain ⟨s4, l4, rfl, h4, b4⟩ := open_ints g4
    obtain ⟨s5, l5, rfl, h5, b5⟩ := open_vecs g5
    obtain ⟨n6, e6, _, _⟩ := DataW.trod_int Try.underlying3 g6
    obtain ⟨n7, e7, _, _⟩ := DataW.trod_int Try.underlying2 g7
    obtain ⟨s8, l8, rfl, h8, b8, z8⟩ := open_texts g8
    obtain ⟨n9, e9, _, _⟩ := DataW.trod_int Try.underlying2 g9
    obtain ⟨s10, l10, rfl, h10, b10, z10⟩ := open_texts g10
    simp only [List.cons.injEq, and_true] at e0 e1 e2 e3 e6 e7 e9
    subst e0 e1 e2 e3 e6 e7 e9
    refine ⟨⟨n0, n1, n2, n3, s4, s5, n6, n7, s8, n9, s10⟩, ⟨l4, l5, l8, l10⟩, rfl, ⟨h4, h5, h8, h10⟩, fun hb => ?_⟩
    have u1 : Wt 9 x1.1 := Wt.field (j := 1) hb Try.underlying30 rfl rfl
    have u4 : Wt 26 x4.1 := Wt.field (j := 4) hb Try.underlying30 rfl rfl
    have u5 : Wt 27 x5.1 := Wt.field (j := 5) hb Try.underlying30 rfl rfl
    have u8 : Wt 28 x8.1 := Wt.field (j := 8) hb Try.underlying30 rfl rfl
    have u10 : Wt 28 x10.1 := Wt.field (j := 10) hb Try.underlying30 rfl rfl
    rw [r1] at u1
    have := Wt.text u1
    exact ⟨by show n1.size ≤ _; omega, b4 u4, b5 u5, b8 u8, b10 u10, z8 u8, z10 u10⟩

set_option maxRecDepth 100000 in
theorem arr27 {α : Type} {cs : Array α} (h : cs.size = 27) : ∃ c0 c1 c2 c3 c4 c5 c6 c7 c8 c9 c10 c11 c12 c13 c14 c15 c16 c17 c18 c19 c20 c21 c22 c23 c24 c25 c26, cs = #[c0, c1, c2, c3, c4, c5, c6, c7, c8, c9, c10, c11, c12, c13, c14, c15, c16, c17, c18, c19, c20, c21, c22, c23, c24, c25, c26] := by
  obtain ⟨l⟩ := cs
  match l, h with
  | [c0, c1, c2, c3, c4, c5, c6, c7, c8, c9, c10, c11, c12, c13, c14, c15, c16, c17, c18, c19, c20, c21, c22, c23, c24, c25, c26], _ => exact ⟨c0, c1, c2, c3, c4, c5, c6, c7, c8, c9, c10, c11, c12, c13, c14, c15, c16, c17, c18, c19, c20, c21, c22, c23, c24, c25, c26, rfl⟩
set_option linter.unusedSimpArgs false in
set_option maxRecDepth 100000 in
set_option maxHeartbeats 1000000 in
theorem open_plain {r : Reach} {b0 : Nat} {v : Value} {x : DataW H} {p : List MemPlace} (hv : Value.okWide Try.prog W r b0 32 v) (h : DataW.Trod enc Try.prog W base spare held 32 v x p) :
    ∃ (q : PL) (L : JL), v = .agg q.cells ∧ q.jb.has W L ∧ (Wt 32 x → Fits q.jb L) := by
  obtain ⟨cs, rfl, hsz⟩ := okWide_struct Try.underlying32 hv
  obtain ⟨c0, c1, c2, c3, c4, c5, c6, c7, c8, c9, c10, c11, c12, c13, c14, c15, c16, c17, c18, c19, c20, c21, c22, c23, c24, c25, c26, rfl⟩ := arr27 (hsz.trans cellsOf32)
  obtain ⟨fuel, hf⟩ := h
  obtain ⟨xs, m, _, hx, hcl, hlen, hget⟩ := DataW.trod_struct Try.underlying32 hf
  have g0 : DataW.trod enc Try.prog W base spare held m 3 (List.take (Try.prog.cellsOf 3) (List.drop 0 [c0, c1, c2, c3, c4, c5, c6, c7, c8, c9, c10, c11, c12, c13, c14, c15, c16, c17, c18, c19, c20, c21, c22, c23, c24, c25, c26])) = xs[0]? := hget 0 _ rfl
  have g1 : DataW.trod enc Try.prog W base spare held m 25 (List.take (Try.prog.cellsOf 25) (List.drop 1 [c0, c1, c2, c3, c4, c5, c6, c7, c8, c9, c10, c11, c12, c13, c14, c15, c16, c17, c18, c19, c20, c21, c22, c23, c24, c25, c26])) = xs[1]? := hget 1 _ rfl
  have g2 : DataW.trod enc Try.prog W base spare held m 9 (List.take (Try.prog.cellsOf 9) (List.drop 7 [c0, c1, c2, c3, c4, c5, c6, c7, c8, c9, c10, c11, c12, c13, c14, c15, c16, c17, c18, c19, c20, c21, c22, c23, c24, c25, c26])) = xs[2]? := hget 2 _ rfl
  have g3 : DataW.trod enc Try.prog W base spare held m 2 (List.take (Try.prog.cellsOf 2) (List.drop 8 [c0, c1, c2, c3, c4, c5, c6, c7, c8, c9, c10, c11, c12, c13, c14, c15, c16, c17, c18, c19, c20, c21, c22, c23, c24, c25, c26])) = xs[3]? := hget 3 _ rfl
  have g4 : DataW.trod enc Try.prog W base spare held m 23 (List.take (Try.prog.cellsOf 23) (List.drop 9 [c0, c1, c2, c3, c4, c5, c6, c7, c8, c9, c10, c11, c12, c13, c14, c15, c16, c17, c18, c19, c20, c21, c22, c23, c24, c25, c26])) = xs[4]? := hget 4 _ rfl
  have g5 : DataW.trod enc Try.prog W base spare held m 30 (List.take (Try.prog.cellsOf 30) (List.drop 13 [c0, c1, c2, c3, c4, c5, c6, c7, c8, c9, c10, c11, c12, c13, c14, c15, c16, c17, c18, c19, c20, c21, c22, c23, c24, c25, c26])) = xs[5]? := hget 5 _ rfl
  have g6 : DataW.trod enc Try.prog W base spare held m 2 (List.take (Try.prog.cellsOf 2) (List.drop 24 [c0, c1, c2, c3, c4, c5, c6, c7, c8, c9, c10, c11, c12, c13, c14, c15, c16, c17, c18, c19, c20, c21, c22, c23, c24, c25, c26])) = xs[6]? := hget 6 _ rfl
  have g7 : DataW.trod enc Try.prog W base spare held m 28 (List.take (Try.prog.cellsOf 28) (List.drop 25 [c0, c1, c2, c3, c4, c5, c6, c7, c8, c9, c10, c11, c12, c13, c14, c15, c16, c17, c18, c19, c20, c21, c22, c23, c24, c25, c26])) = xs[7]? := hget 7 _ rfl
  have g8 : DataW.trod enc Try.prog W base spare held m 3 (List.take (Try.prog.cellsOf 3) (List.drop 26 [c0, c1, c2, c3, c4, c5, c6, c7, c8, c9, c10, c11, c12, c13, c14, c15, c16, c17, c18, c19, c20, c21, c22, c23, c24, c25, c26])) = xs[8]? := hget 8 _ rfl
  match xs, hlen with
  | [x0, x1, x2, x3, x4, x5, x6, x7, x8], _ =>
    simp only [cellsOf2, cellsOf3, cellsOf9, cellsOf23, cellsOf25, cellsOf26, cellsOf27, cellsOf28, cellsOf30, List.drop_zero, List.drop_succ_cons, List.take_succ_cons, List.take_zero, List.getElem?_cons_zero, List.getElem?_cons_succ] at  g0 g1 g2 g3 g4 g5 g6 g7 g8
    obtain ⟨n0, e0, _, _⟩ := DataW.trod_int Try.underlying3 g0
    obtain ⟨ys, m1, _, _, _, hlen1, hget1⟩ := DataW.trod_struct Try.underlying25 g1
    have k0 : DataW.trod enc Try.prog W base spare held m1 9 (List.take (Try.prog.cellsOf 9) (List.drop 0 [c1, c2, c3, c4, c5, c6])) = ys[0]? := hget1 0 _ rfl
    have k1 : DataW.trod enc Try.prog W base spare held m1 2 (List.take (Try.prog.cellsOf 2) (List.drop 1 [c1, c2, c3, c4, c5, c6])) = ys[1]? := hget1 1 _ rfl
    have k2 : DataW.trod enc Try.prog W base spare held m1 23 (List.take (Try.prog.cellsOf 23) (List.drop 2 [c1, c2, c3, c4, c5, c6])) = ys[2]? := hget1 2 _ rfl
    obtain ⟨n7, e7, _, _⟩ := DataW.trod_string Try.underlying9 g2
    obtain ⟨n8, e8, _, _⟩ := DataW.trod_int Try.underlying2 g3
    obtain ⟨v9, e9⟩ := elem23 g4
    obtain ⟨j, L, ej, hj, hfit⟩ := open_job g5
    obtain ⟨n24, e24, _, _⟩ := DataW.trod_int Try.underlying2 g6
    obtain ⟨s25, l25, rfl, h25, b25, z25⟩ := open_texts g7
    obtain ⟨n26, e26, _, _⟩ := DataW.trod_int Try.underlying3 g8
    match ys, hlen1 with
    | [y0, y1, y2], _ =>
      simp only [cellsOf2, cellsOf3, cellsOf9, cellsOf23, cellsOf25, cellsOf26, cellsOf27, cellsOf28, cellsOf30, List.drop_zero, List.drop_succ_cons, List.take_succ_cons, List.take_zero, List.getElem?_cons_zero, List.getElem?_cons_succ] at  k0 k1 k2
      obtain ⟨n1, e1, _, _⟩ := DataW.trod_string Try.underlying9 k0
      obtain ⟨n2, e2, _, _⟩ := DataW.trod_int Try.underlying2 k1
      obtain ⟨v3, e3⟩ := elem23 k2
      simp only [List.cons.injEq, and_true] at e0 e1 e2 e3 e7 e8 e9 e24 e26
      obtain ⟨a3, a4, a5, a6⟩ := e3
      obtain ⟨a9, a10, a11, a12⟩ := e9
      simp only [JB.cells, Array.mk.injEq, List.cons.injEq, and_true] at ej
      obtain ⟨j0, j1, j2, j3, j4, j5, j6, j7, j8, j9, j10⟩ := ej
      subst e0 e1 e2 a3 a4 a5 a6 e7 e8 a9 a10 a11 a12 j0 j1 j2 j3 j4 j5 j6 j7 j8 j9 j10 e24 e26
      refine ⟨⟨n0, n1, n2, v3.a, v3.b, v3.c, v3.d, n7, n8, v9.a, v9.b, v9.c, v9.d, j, n24, s25, n26⟩, L, rfl, hj, fun hb => hfit ?_⟩
      simp only [Prod.mk.injEq] at hx
      rw [hx.1] at hb
      exact Wt.field (j := 5) hb Try.underlying32 rfl rfl
end
end Go.Proofs.Ytnkkiepoljbhlaa
