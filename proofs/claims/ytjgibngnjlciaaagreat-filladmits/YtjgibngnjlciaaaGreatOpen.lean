/-
  The laws' arguments, opened: vectors, slots, names.
-/
import Derived.Test.YtjgibngnjlciaaaGreatLa
import Derived.ProofKit
import Derived.OpenShut
import Derived.ShutString
import Derived.SizedLaws
import Derived.ChangeMaps5
namespace Go.Proofs.YtjgibngnjlciaaaGreat
open Go.ChangeShapes Go.WideShapes Go.ChangeAt Go.RowKit

theorem cellsOf2 : Tryz.prog.cellsOf 2 = 1 := by kernel_rfl
theorem cellsOf9 : Tryz.prog.cellsOf 9 = 1 := by kernel_rfl
theorem cellsOf41 : Tryz.prog.cellsOf 40 = 4 := by kernel_rfl
theorem cellsOf43 : Tryz.prog.cellsOf 46 = 5 := by kernel_rfl
theorem laidOut : laidOutB Tryz.prog = true := by kernel_rfl
theorem add_plain (b off j : Nat) : (⟨b, off, none⟩ : Addr).add j = ⟨b, off + j, none⟩ := by unfold Addr.add; split <;> simp_all
def LiesV (w : World) (a : Option Addr) (xs : List Value) : Prop := xs = [] ∨ ∃ g o, a = some ⟨g, o, none⟩ ∧ RowV w g o xs
/-- every list and text within is of a size in reach -/
def Wt {H : Type} (t : TypeId) (d : DataW H) : Prop := ∀ m ∈ d.weights Tryz.prog t, m ≤ reachBytes
theorem weightsAll_mem {H : Type} {e : TypeId} {l : List (DataW H)} {d : DataW H} (h : d ∈ l) : ∀ n ∈ d.weights Tryz.prog e, n ∈ DataW.weightsAll Tryz.prog e l := by
  induction l with
  | nil => cases h
  | cons x r ih =>
    intro n hn
    simp only [DataW.weightsAll, List.mem_append]
    rcases List.mem_cons.1 h with rfl | h
    · exact .inl hn
    · exact .inr (ih h n hn)

theorem rowV_append {W : World} {g o : Nat} {xs ys : List Value} (h1 : RowV W g o xs) (h2 : RowV W g (o + xs.length) ys) : RowV W g o (xs ++ ys) := fun k u hu => by
  by_cases hk : k < xs.length
  · rw [List.getElem?_append_left hk] at hu
    exact h1 k u hu
  · rw [List.getElem?_append_right (by omega)] at hu
    have := h2 _ u hu
    rwa [show o + xs.length + (k - xs.length) = o + k by omega] at this



theorem Wt.field {H : Type} {t u : TypeId} {fs : Array Field} {parts : List (DataW H)} {j : Nat} {d : DataW H} (h : Wt t (.agg parts)) (ht : Tryz.prog.underlying t = some (.struct fs)) (hf : (fs.toList.map (·.type))[j]? = some u) (hd : parts[j]? = some d) : Wt u d := fun m hm =>
  h m (by simp only [DataW.weights, ht]; exact DataW.weights_mem_each hf hd m hm)
theorem Wt.text {H : Type} {t : TypeId} {s : ByteArray} (h : Wt (H := H) t (.lit (.string s.data.toList))) : s.size ≤ 140737488351232 := by
  have := h s.data.toList.length (by simp [DataW.weights])
  rw [Lib.size_eq]
  simpa [reachBytes] using this


theorem len5 {l : List Value} (h : l.length = 5) : ∃ c0 c1 c2 c3 c4, l = [c0, c1, c2, c3, c4] := by
  match l, h with
  | [c0, c1, c2, c3, c4], _ => exact ⟨c0, c1, c2, c3, c4, rfl⟩
theorem len4 {l : List Value} (h : l.length = 4) : ∃ c0 c1 c2 c3, l = [c0, c1, c2, c3] := by
  match l, h with
  | [c0, c1, c2, c3], _ => exact ⟨c0, c1, c2, c3, rfl⟩
theorem lies_ga {α : Type} {f : α → List Value} {sz : Nat} (hf : ∀ a, (f a).length = sz) (hz : 0 < sz) {W : World} {q : Option Addr} {L : List α} (h : LiesV W q (L.flatMap f)) : GA sz f W q L := fun i o hi => by
  rcases h with e | ⟨g, a, rfl, hr⟩
  · have := cs_get hf hi 0 hz
    rw [e, List.getElem?_nil, List.getElem?_eq_getElem (by rw [hf]; exact hz)] at this
    cases this
  · refine ⟨g, a, rfl, fun j u hu => ?_⟩
    have hj : j < sz := by have := (List.getElem?_eq_some_iff.1 hu).1; rwa [hf] at this
    have := hr (i * sz + j) u (by rw [cs_get hf hi j hj]; exact hu)
    rwa [← Nat.add_assoc] at this
section
variable {H : Type} {enc : TypeId × Value → H} {W : World} {base : Nat} {spare : Nat → Bool} {held : Bool}
/-- a number of the kind int64 -/
abbrev I64 (n : Int) : Prop := (Lit.int .i64 n).wf = true
theorem elem41 {fuel : Nat} {c0 c1 c2 c3 : Value} {x : DataW H × List MemPlace} (h : DataW.trod enc Tryz.prog W base spare held fuel 40 [c0, c1, c2, c3] = some x) :
    ∃ a b c d : Int, (I64 a ∧ I64 b ∧ I64 c ∧ I64 d) ∧ (c0 = .int .i64 a ∧ c1 = .int .i64 b ∧ c2 = .int .i64 c ∧ c3 = .int .i64 d) ∧ x = (.agg [.lit (.int .i64 a), .lit (.int .i64 b), .lit (.int .i64 c), .lit (.int .i64 d)], []) := by
  obtain ⟨xs, m, _, hx, _, hlen, hget⟩ := DataW.trod_array Tryz.underlying40 h
  have g0 := hget 0 (by omega)
  have g1 := hget 1 (by omega)
  have g2 := hget 2 (by omega)
  have g3 := hget 3 (by omega)
  match xs, hlen with
  | [x0, x1, x2, x3], _ =>
    simp only [cellsOf2, Nat.zero_mul, Nat.one_mul, Nat.reduceMul, List.drop_zero, List.drop_succ_cons, List.take_succ_cons, List.take_zero, List.getElem?_cons_zero, List.getElem?_cons_succ] at g0 g1 g2 g3
    obtain ⟨n0, e0, r0, w0⟩ := DataW.trod_int Tryz.underlying2 g0
    obtain ⟨n1, e1, r1, w1⟩ := DataW.trod_int Tryz.underlying2 g1
    obtain ⟨n2, e2, r2, w2⟩ := DataW.trod_int Tryz.underlying2 g2
    obtain ⟨n3, e3, r3, w3⟩ := DataW.trod_int Tryz.underlying2 g3
    simp only [List.cons.injEq, and_true] at e0 e1 e2 e3
    subst r0 r1 r2 r3
    exact ⟨n0, n1, n2, n3, ⟨w0, w1, w2, w3⟩, ⟨e0, e1, e2, e3⟩, hx⟩


theorem okWide_arr {n : Nat} {e t : TypeId} {P : Program} {w : World} {r : Reach} {b : Nat} {v : Value} (ht : P.underlying t = some (.array n e)) (h : Value.okWide P w r b t v) : ∃ cs, v = .agg cs ∧ cs.size = P.cellsOf t := by
  simp only [Value.okWide, ht] at h
  obtain ⟨cs, h1, h2, _⟩ := h
  exact ⟨cs, h1, h2⟩
theorem arr4 {α : Type} {cs : Array α} (h : cs.size = 4) : ∃ c0 c1 c2 c3, cs = #[c0, c1, c2, c3] := by
  obtain ⟨l⟩ := cs
  match l, h with
  | [c0, c1, c2, c3], _ => exact ⟨c0, c1, c2, c3, rfl⟩

theorem opened {α : Type} {e : TypeId} {sz n : Nat} (f : α → List Value) (hf : ∀ a, (f a).length = sz) (Q : α → DataW H → Prop)
    (elem : ∀ cs x, DataW.trod enc Tryz.prog W base spare held n e cs = some x → ∃ a, cs = f a ∧ Q a x.1) (b : Nat) :
    ∀ (elems : List (DataW H × List MemPlace)) (off : Nat), (∀ i, i < elems.length → (W.cells? base ⟨b, off + i * sz, none⟩ sz).bind (DataW.trod enc Tryz.prog W base spare held n e) = elems[i]?) →
      ∃ l : List α, l.length = elems.length ∧ RowV W b off (l.flatMap f) ∧ ∀ a ∈ l, ∃ x ∈ elems, Q a x.1
  | [], off, _ => ⟨[], rfl, fun k u hu => by simp at hu, fun a h => by cases h⟩
  | x :: r, off, h => by
    have h0 := h 0 (by simp)
    rw [List.getElem?_cons_zero, Option.bind_eq_some_iff] at h0
    obtain ⟨cs, hcs, hy⟩ := h0
    obtain ⟨_, hl, hcell⟩ := World.cells?_some hcs
    obtain ⟨a, rfl, hq⟩ := elem cs x hy
    obtain ⟨l, hll, hrow, hQ⟩ := opened f hf Q elem b r (off + sz) (fun i hi => by
      have := h (i + 1) (by simp; omega)
      rw [List.getElem?_cons_succ] at this
      rwa [show off + (i + 1) * sz = off + sz + i * sz by rw [Nat.succ_mul]; omega] at this)
    refine ⟨a :: l, by simp [hll], ?_, ?_⟩
    · rw [List.flatMap_cons]
      refine rowV_append (fun k u hu => ?_) (by rw [hf]; exact hrow)
      have hk : k < sz := by have := (List.getElem?_eq_some_iff.1 hu).1; rwa [hf] at this
      have := hcell k hk
      rw [add_plain, hu] at this
      simpa using this
    · intro a' hi
      rcases List.mem_cons.1 hi with rfl | hi
      · exact ⟨x, by simp, hq⟩
      · obtain ⟨y, hy, hq⟩ := hQ a' hi
        exact ⟨y, List.mem_cons_of_mem _ hy, hq⟩

theorem slice_row {α : Type} {e : TypeId} {sz n : Nat} (f : α → List Value) (hf : ∀ a, (f a).length = sz) (hc : Tryz.prog.cellsOf e = sz) (hz : 0 < sz) (Q : α → DataW H → Prop)
    (elem : ∀ cs x, DataW.trod enc Tryz.prog W base spare held n e cs = some x → ∃ a, cs = f a ∧ Q a x.1) (a : Addr) (elems : List (DataW H × List MemPlace))
    (hel : ∀ i, i < elems.length → (W.cells? base (a.add (i * Tryz.prog.cellsOf e)) (Tryz.prog.cellsOf e)).bind (DataW.trod enc Tryz.prog W base spare held n e) = elems[i]?) :
    ∃ l : List α, l.length = elems.length ∧ LiesV W (some a) (l.flatMap f) ∧ ∀ a ∈ l, ∃ x ∈ elems, Q a x.1 := by
  match elems, hel with
  | [], _ => exact ⟨[], rfl, .inl rfl, fun a h => by cases h⟩
  | x :: r, hel =>
    have h0 := hel 0 (by simp)
    rw [hc, List.getElem?_cons_zero, Option.bind_eq_some_iff] at h0
    obtain ⟨cs, hcs, hy⟩ := h0
    obtain ⟨_, hl, hcell⟩ := World.cells?_some hcs
    have k0 := hcell 0 hz
    rw [List.getElem?_eq_getElem (by omega)] at k0
    have hs : a.spot = none := by simpa [Addr.add] using World.cell?_spot k0
    obtain ⟨b, off, spot⟩ := a
    simp only at hs
    subst hs
    obtain ⟨l, h1, h2, h3⟩ := opened f hf Q elem b (x :: r) off (fun i hi => by have := hel i hi; rwa [hc, add_plain] at this)
    exact ⟨l, h1, .inr ⟨b, off, rfl, h2⟩, h3⟩

theorem open_list {α : Type} {t e : TypeId} {sz fuel : Nat} (ht : Tryz.prog.underlying t = some (.slice e)) (f : α → List Value) (hf : ∀ a, (f a).length = sz) (hc : Tryz.prog.cellsOf e = sz) (hz : 0 < sz) (Q : α → DataW H → Prop)
    (elem : ∀ n cs x, DataW.trod enc Tryz.prog W base spare held n e cs = some x → ∃ a, cs = f a ∧ Q a x.1) {v : Value} {x : DataW H × List MemPlace} (h : DataW.trod enc Tryz.prog W base spare held fuel t [v] = some x) :
    ∃ (q : Option Addr) (c : Nat) (l : List α), v = .slice q l.length c ∧ LiesV W q (l.flatMap f) ∧ (Wt t x.1 → l.length * Tryz.prog.bytesOf e ≤ 140737488351232) ∧ (∀ a ∈ l, ∃ d, Q a d ∧ (Wt t x.1 → Wt e d)) ∧ l.length ≤ maxLen ∧ (q = none → c = 0) := by
  rcases DataW.trod_slice ht h with ⟨hcs, hx⟩ | ⟨a, len', cap', elems, rest, n, _, hcs, hx, _, hl, hm, hlen, hel, _, _⟩
  · simp only [List.cons.injEq, and_true] at hcs
    subst hcs
    exact ⟨none, 0, [], rfl, .inl rfl, fun _ => by simp, (fun a h => by cases h), Nat.zero_le _, fun _ => rfl⟩
  · simp only [List.cons.injEq, and_true] at hcs
    subst hcs hx hlen
    obtain ⟨l, h1, h2, h3⟩ := slice_row f hf hc hz Q (elem n) a elems hel
    refine ⟨some a, cap', l, by rw [h1], h2, fun hw => ?_, fun a' ha => ?_, by omega, fun e => nomatch e⟩
    · have := hw ((elems.map (·.1)).length + (rest.map (·.1)).length |> (· * Tryz.prog.bytesOf e)) (by simp [DataW.weights, ht])
      simp only [List.length_map, reachBytes] at this
      rw [h1]
      exact Nat.le_trans (Nat.mul_le_mul_right _ (Nat.le_add_right _ _)) this
    · obtain ⟨y, hy, hq⟩ := h3 a' ha
      refine ⟨y.1, hq, fun hw m hm => hw m ?_⟩
      have := weightsAll_mem (List.mem_map_of_mem (f := (·.1)) hy) m hm
      simp only [DataW.weights, ht, List.mem_cons, List.mem_append]
      exact .inr (.inl this)

set_option maxRecDepth 100000 in
theorem open_vec {r : Reach} {b0 : Nat} {v : Value} {x : DataW H} {p : List MemPlace} (hv : Value.okWide Tryz.prog W r b0 40 v) (h : DataW.Trod enc Tryz.prog W base spare held 40 v x p) :
    ∃ k : V, v = .agg #[.int .i64 k.a, .int .i64 k.b, .int .i64 k.c, .int .i64 k.d] := by
  obtain ⟨cs, rfl, hsz⟩ := okWide_arr Tryz.underlying40 hv
  obtain ⟨c0, c1, c2, c3, rfl⟩ := arr4 (hsz.trans cellsOf41)
  obtain ⟨fuel, hf⟩ := h
  obtain ⟨a, b, c, d, _, ⟨rfl, rfl, rfl, rfl⟩, _⟩ := elem41 (c0 := c0) (c1 := c1) (c2 := c2) (c3 := c3) hf
  exact ⟨⟨a, b, c, d⟩, rfl⟩

theorem trod_struct2 {P : Program} {t : TypeId} {f0 f1 : Field} {fuel : Nat} {cs : List Value} {x : DataW H × List MemPlace} (ht : P.underlying t = some (.struct #[f0, f1])) (h : DataW.trod enc P W base spare held fuel t cs = some x) :
    ∃ y0 y1 n, x.1 = .agg [y0.1, y1.1] ∧ cs.length = P.cellsOf t ∧ DataW.trod enc P W base spare held n f0.type ((cs.drop f0.offset).take (P.cellsOf f0.type)) = some y0 ∧ DataW.trod enc P W base spare held n f1.type ((cs.drop f1.offset).take (P.cellsOf f1.type)) = some y1 := by
  obtain ⟨xs, n, _, rfl, hl, hlen, hf⟩ := DataW.trod_struct ht h
  match xs, hlen with
  | [y0, y1], _ => exact ⟨y0, y1, n, rfl, hl, by simpa using hf 0 f0 rfl, by simpa using hf 1 f1 rfl⟩
set_option maxRecDepth 100000 in
theorem elem43 {fuel : Nat} {cs : List Value} {x : DataW H × List MemPlace} (h : DataW.trod enc Tryz.prog W base spare held fuel 46 cs = some x) : ∃ e : Sl, cs = slC e ∧ (Wt 46 x.1 → e.nm.length ≤ 281474976710656) := by
  obtain ⟨y0, y1, n, hx, hl, h0, h1⟩ := trod_struct2 Tryz.underlying46 h
  rw [cellsOf43] at hl
  obtain ⟨c0, c1, c2, c3, c4, rfl⟩ := len5 hl
  simp only [List.drop_zero, List.drop_succ_cons, cellsOf9, cellsOf41, List.take_succ_cons, List.take_zero] at h0 h1
  obtain ⟨s, e0, r0, _⟩ := DataW.trod_string Tryz.underlying9 h0
  obtain ⟨a, b, c, d, _, ⟨rfl, rfl, rfl, rfl⟩, _⟩ := elem41 h1
  simp only [List.cons.injEq, and_true] at e0
  refine ⟨⟨s.data.toList, ⟨a, b, c, d⟩⟩, by rw [e0]; rfl, fun hw => ?_⟩
  rw [hx] at hw
  have h3 : Wt 9 y0.1 := Wt.field (j := 0) hw Tryz.underlying46 rfl rfl
  rw [r0] at h3
  have := h3.text
  rw [Lib.size_eq] at this
  show s.data.toList.length ≤ 281474976710656
  omega
theorem elemV {fuel : Nat} {cs : List Value} {x : DataW H × List MemPlace} (h : DataW.trod enc Tryz.prog W base spare held fuel 40 cs = some x) : ∃ v : V, cs = vC v ∧ True := by
  obtain ⟨xs, m, _, _, hl, _, _⟩ := DataW.trod_array Tryz.underlying40 h
  rw [cellsOf41] at hl
  obtain ⟨c0, c1, c2, c3, rfl⟩ := len4 hl
  obtain ⟨a, b, c, d, _, ⟨rfl, rfl, rfl, rfl⟩, _⟩ := elem41 h
  exact ⟨⟨a, b, c, d⟩, rfl, trivial⟩
theorem elem9 {fuel : Nat} {cs : List Value} {x : DataW H × List MemPlace} (h : DataW.trod enc Tryz.prog W base spare held fuel 9 cs = some x) : ∃ s : List UInt8, cs = sC s ∧ (Wt 9 x.1 → s.length ≤ 281474976710656) := by
  obtain ⟨s, e0, r0, _⟩ := DataW.trod_string Tryz.underlying9 h
  refine ⟨s.data.toList, by rw [e0]; rfl, fun hw => ?_⟩
  rw [r0] at hw
  have := hw.text
  rw [Lib.size_eq] at this
  show s.data.toList.length ≤ 281474976710656
  omega
set_option maxRecDepth 100000 in
theorem open_slots {v : Value} {x : DataW H} {p : List MemPlace} {r : Reach} {b0 : Nat} (hv : Value.okWide Tryz.prog W r b0 26 v) (h : DataW.Trod enc Tryz.prog W base spare held 26 v x p) :
    ∃ (q : Option Addr) (c : Nat) (L : List Sl), v = .slice q L.length c ∧ SA W q L ∧ (Wt 26 x → Short L) ∧ L.length ≤ maxLen ∧ (q = none → c = 0) := by
  obtain ⟨a0, len, cap, rfl⟩ := okWide_slice Tryz.underlying26 hv
  obtain ⟨fuel, hf⟩ := h
  obtain ⟨q, c, L, h1, h2, h3, h4, h5, h6⟩ := open_list (x := (x, p)) Tryz.underlying26 slC slC_len cellsOf43 (by decide) (fun e d => Wt 46 d → e.nm.length ≤ 281474976710656) (fun n cs x h => elem43 h) (show DataW.trod enc Tryz.prog W base spare held fuel 26 [.slice a0 len cap] = some (x, p) from hf)
  refine ⟨q, c, L, h1, lies_ga slC_len (by decide) h2, fun hw e he => ?_, h5, h6⟩
  obtain ⟨d, hd, hq⟩ := h4 e he
  exact hd (hq hw)
set_option maxRecDepth 100000 in
theorem open_tasks {v : Value} {x : DataW H} {p : List MemPlace} {r : Reach} {b0 : Nat} (hv : Value.okWide Tryz.prog W r b0 22 v) (h : DataW.Trod enc Tryz.prog W base spare held 22 v x p) :
    ∃ (q : Option Addr) (c : Nat) (L : List V), v = .slice q L.length c ∧ TA W q L ∧ L.length ≤ maxLen ∧ (q = none → c = 0) := by
  obtain ⟨a0, len, cap, rfl⟩ := okWide_slice Tryz.underlying22 hv
  obtain ⟨fuel, hf⟩ := h
  obtain ⟨q, c, L, h1, h2, h3, h4, h5, h6⟩ := open_list (x := (x, p)) Tryz.underlying22 vC vC_len cellsOf41 (by decide) (fun _ _ => True) (fun n cs x h => elemV h) (show DataW.trod enc Tryz.prog W base spare held fuel 22 [.slice a0 len cap] = some (x, p) from hf)
  exact ⟨q, c, L, h1, lies_ga vC_len (by decide) h2, h5, h6⟩
set_option maxRecDepth 100000 in
theorem open_names {v : Value} {x : DataW H} {p : List MemPlace} {r : Reach} {b0 : Nat} (hv : Value.okWide Tryz.prog W r b0 29 v) (h : DataW.Trod enc Tryz.prog W base spare held 29 v x p) :
    ∃ (q : Option Addr) (c : Nat) (L : List (List UInt8)), v = .slice q L.length c ∧ NA W q L ∧ (Wt 29 x → ∀ s ∈ L, s.length ≤ 281474976710656) ∧ L.length ≤ maxLen ∧ (q = none → c = 0) := by
  obtain ⟨a0, len, cap, rfl⟩ := okWide_slice Tryz.underlying29 hv
  obtain ⟨fuel, hf⟩ := h
  obtain ⟨q, c, L, h1, h2, h3, h4, h5, h6⟩ := open_list (x := (x, p)) Tryz.underlying29 sC sC_len cellsOf9 (by decide) (fun e d => Wt 9 d → e.length ≤ 281474976710656) (fun n cs x h => elem9 h) (show DataW.trod enc Tryz.prog W base spare held fuel 29 [.slice a0 len cap] = some (x, p) from hf)
  refine ⟨q, c, L, h1, lies_ga sC_len (by decide) h2, fun hw e he => ?_, h5, h6⟩
  obtain ⟨d, hd, hq⟩ := h4 e he
  exact hd (hq hw)
end
end Go.Proofs.YtjgibngnjlciaaaGreat
