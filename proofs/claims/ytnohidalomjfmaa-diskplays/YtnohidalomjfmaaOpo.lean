/-
  A script that came in, opened; the law at no calls.
-/
import Derived.Test.YtnohidalomjfmaaPm
import Derived.Test.YtnohidalomjfmaaOpt
namespace Go.Proofs.Ytnohidalomjfmaa
open Go.ChangeShapes Go.WideShapes Go.ChangeAt Go.RowKit

theorem cellsOf3 : Try.prog.cellsOf 3 = 1 := by kernel_rfl
theorem cellsOf9 : Try.prog.cellsOf 9 = 1 := by kernel_rfl
theorem cellsOf32 : Try.prog.cellsOf 32 = 5 := by kernel_rfl
theorem bytesOf32 : 1 ≤ Try.prog.bytesOf 32 := by decide +kernel
/-- every list and text within is of a size in reach -/
def Wt {H : Type} (t : TypeId) (d : DataW H) : Prop := ∀ m ∈ d.weights Try.prog t, m ≤ reachBytes
theorem weightsAll_mem {H : Type} {e : TypeId} {l : List (DataW H)} {d : DataW H} (h : d ∈ l) : ∀ n ∈ d.weights Try.prog e, n ∈ DataW.weightsAll Try.prog e l := by
  induction l with
  | nil => cases h
  | cons x r ih =>
    intro n hn
    simp only [DataW.weightsAll, List.mem_append]
    rcases List.mem_cons.1 h with rfl | h
    · exact .inl hn
    · exact .inr (ih h n hn)
theorem Wt.field {H : Type} {t u : TypeId} {fs : Array Field} {parts : List (DataW H)} {j : Nat} {d : DataW H} (h : Wt t (.agg parts)) (ht : Try.prog.underlying t = some (.struct fs)) (hf : (fs.toList.map (·.type))[j]? = some u) (hd : parts[j]? = some d) : Wt u d := fun m hm =>
  h m (by simp only [DataW.weights, ht]; exact DataW.weights_mem_each hf hd m hm)
theorem Wt.text {H : Type} {t : TypeId} {s : ByteArray} (h : Wt (H := H) t (.lit (.string s.data.toList))) : s.data.toList.length ≤ 281474976710656 := by
  have := h s.data.toList.length (by simp [DataW.weights])
  have e : reachBytes = 140737488351232 := by decide +kernel
  omega
theorem rowV_append {W : World} {g o : Nat} {xs ys : List Value} (h1 : RowV W g o xs) (h2 : RowV W g (o + xs.length) ys) : RowV W g o (xs ++ ys) := fun k u hu => by
  by_cases hk : k < xs.length
  · rw [List.getElem?_append_left hk] at hu
    exact h1 k u hu
  · rw [List.getElem?_append_right (by omega)] at hu
    have := h2 _ u hu
    rwa [show o + xs.length + (k - xs.length) = o + k by omega] at this

section
variable {H : Type} {enc : TypeId × Value → H} {W : World} {base : Nat} {spare : Nat → Bool} {held : Bool}

theorem opened {α : Type} {e : TypeId} {sz n : Nat} (f : α → List Value) (hf : ∀ a, (f a).length = sz) (Q : α → DataW H → Prop)
    (elem : ∀ cs x, cs.length = sz → DataW.trod enc Try.prog W base spare held n e cs = some x → ∃ a, cs = f a ∧ Q a x.1) (b : Nat) :
    ∀ (elems : List (DataW H × List MemPlace)) (off : Nat), (∀ i, i < elems.length → (W.cells? base ⟨b, off + i * sz, none⟩ sz).bind (DataW.trod enc Try.prog W base spare held n e) = elems[i]?) →
      ∃ l : List α, l.length = elems.length ∧ RowV W b off (l.flatMap f) ∧ ∀ a ∈ l, ∃ x ∈ elems, Q a x.1
  | [], off, _ => ⟨[], rfl, fun k u hu => by simp at hu, fun a h => by cases h⟩
  | x :: r, off, h => by
    have h0 := h 0 (by simp)
    rw [List.getElem?_cons_zero, Option.bind_eq_some_iff] at h0
    obtain ⟨cs, hcs, hy⟩ := h0
    obtain ⟨_, hl, hcell⟩ := World.cells?_some hcs
    obtain ⟨a, rfl, hq⟩ := elem cs x hl hy
    obtain ⟨l, hll, hrow, hQ⟩ := opened f hf Q elem b r (off + sz) (fun i hi => by
      have := h (i + 1) (by simp; omega)
      rw [List.getElem?_cons_succ] at this
      rwa [show off + (i + 1) * sz = off + sz + i * sz by rw [Nat.succ_mul]; omega] at this)
    refine ⟨a :: l, by simp [hll], ?_, ?_⟩
    · rw [List.flatMap_cons]
      refine rowV_append (fun k u hu => ?_) (by rw [hf]; exact hrow)
      have hk : k < sz := by have := (List.getElem?_eq_some_iff.1 hu).1; rwa [hf] at this
      have := hcell k hk
      rw [add_plain, hu] at this
      simpa using this
    · intro a' hi
      rcases List.mem_cons.1 hi with rfl | hi
      · exact ⟨x, by simp, hq⟩
      · obtain ⟨y, hy, hq⟩ := hQ a' hi
        exact ⟨y, List.mem_cons_of_mem _ hy, hq⟩

def cellO (o : OpR) : List Value := [.int .i64 o.kd, .int .i64 o.n, .string ⟨⟨o.s⟩⟩, .string ⟨⟨o.t⟩⟩, .slice o.q o.m o.c]
theorem flatO_bind (l : List OpR) : l.flatMap cellO = flatO l := by
  induction l with
  | nil => rfl
  | cons v l ih => rw [List.flatMap_cons, ih]; rfl
theorem len5 {l : List Value} (h : l.length = 5) : ∃ c0 c1 c2 c3 c4, l = [c0, c1, c2, c3, c4] := by
  match l, h with
  | [c0, c1, c2, c3, c4], _ => exact ⟨c0, c1, c2, c3, c4, rfl⟩
/-- what is known of a call -/
def OpQ (W : World) (o : OpR) (d : DataW H) : Prop := (o.n < 9223372036854775808 ∧ o.mb.length = o.m ∧ (o.q = none → o.c = 0) ∧ Lies W o.q o.mb) ∧ (Wt 32 d → o.s.length ≤ 281474976710656 ∧ o.t.length ≤ 281474976710656 ∧ o.m < 1152921504606846976)
theorem int_lt {n : Int} (h : (Lit.int .i64 n).wf = true) : n < 9223372036854775808 := by
  have hb : n ≤ 9223372036854775807 := by
    simp [Lit.wf, IntKind.min, IntKind.max] at h
    revert h
    simp [IntKind.signed, IntKind.bits]
  omega
theorem elem30w {fuel : Nat} {c0 : Value} {x : DataW H × List MemPlace} (h : DataW.trod enc Try.prog W base spare held fuel 30 [c0] = some x) :
    ∃ (q : Option Addr) (c : Nat) (l : List UInt8), c0 = .slice q l.length c ∧ Lies W q l ∧ (q = none → c = 0) ∧ (Wt 30 x.1 → l.length < 1152921504606846976) := by
  rcases DataW.trod_slice Try.underlying30 h with ⟨hcs, hx⟩ | ⟨a, len', cap', elems, rest, n, _, hcs, hx, _, hl, hm, hlen, hel, _, _⟩
  · simp only [List.cons.injEq, and_true] at hcs
    exact ⟨none, 0, [], hcs, .inl rfl, fun _ => rfl, fun _ => by simp⟩
  · simp only [List.cons.injEq, and_true] at hcs
    obtain ⟨l, hll, hlies⟩ := opened_bytes hlen hel
    subst hll
    refine ⟨some a, cap', l, hcs, hlies, (fun e => by cases e), fun hw => ?_⟩
    subst hx
    have := hw ((elems.map (·.1)).length + (rest.map (·.1)).length |> (· * Try.prog.bytesOf 5)) (by simp [DataW.weights, Try.underlying30])
    simp only [List.length_map, bytesOf5] at this
    have e : reachBytes = 140737488351232 := by decide +kernel
    omega
set_option maxRecDepth 100000 in
theorem elem32 {fuel : Nat} {cs : List Value} {x : DataW H × List MemPlace} (hc : cs.length = 5) (h : DataW.trod enc Try.prog W base spare held fuel 32 cs = some x) : ∃ o : OpR, cs = cellO o ∧ OpQ W o x.1 := by
  obtain ⟨c0, c1, c2, c3, c4, rfl⟩ := len5 hc
  obtain ⟨xs, m, _, rfl, hcl, hlen, hget⟩ := DataW.trod_struct Try.underlying32 h
  have g0 : DataW.trod enc Try.prog W base spare held m 3 (List.take (Try.prog.cellsOf 3) (List.drop 0 [c0, c1, c2, c3, c4])) = xs[0]? := hget 0 _ rfl
  have g1 : DataW.trod enc Try.prog W base spare held m 3 (List.take (Try.prog.cellsOf 3) (List.drop 1 [c0, c1, c2, c3, c4])) = xs[1]? := hget 1 _ rfl
  have g2 : DataW.trod enc Try.prog W base spare held m 9 (List.take (Try.prog.cellsOf 9) (List.drop 2 [c0, c1, c2, c3, c4])) = xs[2]? := hget 2 _ rfl
  have g3 : DataW.trod enc Try.prog W base spare held m 9 (List.take (Try.prog.cellsOf 9) (List.drop 3 [c0, c1, c2, c3, c4])) = xs[3]? := hget 3 _ rfl
  have g4 : DataW.trod enc Try.prog W base spare held m 30 (List.take (Try.prog.cellsOf 30) (List.drop 4 [c0, c1, c2, c3, c4])) = xs[4]? := hget 4 _ rfl
  match xs, hlen with
  | [x0, x1, x2, x3, x4], _ =>
    simp only [cellsOf3, cellsOf9, cellsOf30, List.drop_zero, List.drop_succ_cons, List.take_succ_cons, List.take_zero, List.getElem?_cons_zero, List.getElem?_cons_succ] at g0 g1 g2 g3 g4
    obtain ⟨n0, e0, _, _⟩ := DataW.trod_int Try.underlying3 g0
    obtain ⟨n1, e1, _, w1⟩ := DataW.trod_int Try.underlying3 g1
    obtain ⟨n2, e2, r2, _⟩ := DataW.trod_string Try.underlying9 g2
    obtain ⟨n3, e3, r3, _⟩ := DataW.trod_string Try.underlying9 g3
    obtain ⟨q4, k4, l4, rfl, h4, z4, b4⟩ := elem30w g4
    simp only [List.cons.injEq, and_true] at e0 e1 e2 e3
    subst e0 e1 e2 e3
    refine ⟨⟨n0, n1, n2.data.toList, n3.data.toList, q4, l4.length, k4, l4⟩, rfl, ⟨int_lt w1, rfl, z4, h4⟩, fun hb => ?_⟩
    have u2 : Wt 9 x2.1 := Wt.field (j := 2) hb Try.underlying32 rfl rfl
    have u3 : Wt 9 x3.1 := Wt.field (j := 3) hb Try.underlying32 rfl rfl
    have u4 : Wt 30 x4.1 := Wt.field (j := 4) hb Try.underlying32 rfl rfl
    rw [r2] at u2
    rw [r3] at u3
    exact ⟨Wt.text u2, Wt.text u3, b4 u4⟩

set_option maxRecDepth 100000 in
/-- a script -/
theorem open_script {v : Value} {x : DataW H} {p : List MemPlace} {r : Reach} {b0 : Nat} (hv : Value.okWide Try.prog W r b0 22 v) (h : DataW.Trod enc Try.prog W base spare held 22 v x p) (hw : Wt 22 x) :
    (∃ a c, v = .slice a 0 c) ∨ ∃ (g off c : Nat) (L : List OpR), v = .slice (some ⟨g, off, none⟩) L.length c ∧ L.length < 1152921504606846976 ∧ (∀ o ∈ L, o.m < 1152921504606846976) ∧ Scr W g off L := by
  obtain ⟨a0, len, cap, rfl⟩ := okWide_slice Try.underlying22 hv
  obtain ⟨fuel, hf⟩ := h
  rcases DataW.trod_slice Try.underlying22 (show DataW.trod enc Try.prog W base spare held fuel 22 [.slice a0 len cap] = some (x, p) from hf) with ⟨hcs, hx⟩ | ⟨a, len', cap', elems, rest, n, _, hcs, hx, _, hl, hm, hlen, hel, _, _⟩
  · simp only [List.cons.injEq, and_true] at hcs
    exact .inl ⟨none, 0, hcs⟩
  · simp only [List.cons.injEq, and_true] at hcs
    cases hcs
    simp only [Prod.mk.injEq] at hx
    obtain ⟨rfl, -⟩ := hx
    match elems, hlen, hel with
    | [], hlen, _ => subst hlen; exact .inl ⟨_, _, rfl⟩
    | y :: r, hlen, hel =>
      subst hlen
      have h0 := hel 0 (by simp)
      rw [cellsOf32, List.getElem?_cons_zero, Option.bind_eq_some_iff] at h0
      obtain ⟨cs, hcs, hy⟩ := h0
      obtain ⟨_, hl5, hcell⟩ := World.cells?_some hcs
      have k0 := hcell 0 (by omega)
      rw [List.getElem?_eq_getElem (by omega)] at k0
      have hs : a.spot = none := by simpa [Addr.add] using World.cell?_spot k0
      obtain ⟨b, off, spot⟩ := a
      simp only at hs
      subst hs
      obtain ⟨L, h1, h2, h3⟩ := opened cellO (fun _ => rfl) (OpQ W) (fun cs x hc h => elem32 hc h) b (y :: r) off (fun i hi => by have := hel i hi; rwa [cellsOf32, add_plain] at this)
      rw [flatO_bind] at h2
      have hq : ∀ o ∈ L, ∃ d, OpQ (H := H) W o d ∧ Wt 32 d := fun o ho => by
        obtain ⟨z, hz, hq⟩ := h3 o ho
        refine ⟨z.1, hq, fun m hm => hw m ?_⟩
        have := weightsAll_mem (List.mem_map_of_mem (f := (·.1)) hz) m hm
        simp only [DataW.weights, Try.underlying22, List.mem_cons, List.mem_append]
        exact .inr (.inl this)
      refine .inr ⟨b, off, _, L, by rw [h1], ?_, fun o ho => ?_, h2, fun o ho => ?_⟩
      · have := hw (((y :: r).map (·.1)).length + (rest.map (·.1)).length |> (· * Try.prog.bytesOf 32)) (by simp [DataW.weights, Try.underlying22])
        simp only [List.length_map] at this
        have e : reachBytes = 140737488351232 := by decide +kernel
        have e2 := Nat.le_mul_of_pos_right ((y :: r).length + rest.length) bytesOf32
        rw [h1]
        omega
      · obtain ⟨d, q1, q2⟩ := hq o ho
        exact (q1.2 q2).2.2
      · obtain ⟨d, q1, q2⟩ := hq o ho
        exact ⟨q1.1.1, (q1.2 q2).1, (q1.2 q2).2.1, q1.1.2.1, q1.1.2.2.1, q1.1.2.2.2⟩
end
set_option maxHeartbeats 2000000 in
set_option maxRecDepth 100000 in
theorem law_plays0 (a : Option Addr) (c : Nat) (w : World) : Calls Try.prog 3 #[.slice a 0 c] w fun e w' => e = .returned (.bool true) ∧ Below w.heap.size w w' := by
  have H9 : Hid (∀ w, Calls Try.prog 9 #[] w fun e w' => e = .returned (.bool true) ∧ Below w.heap.size w w') := fun w => awake_any w
  go_enter Try.func3, Try.ntmps3
  go_wp2_with (go_at_call 9; refine (H9.out _).mono ?_)
  rintro e w1 ⟨rfl, b1⟩
  have y1 : Hid (Below w.heap.size w w1) := b1
  clear b1
  go_wp2_with (go_at_call 10; refine (few_zero a c w1).mono ?_)
  rintro e w2 ⟨rfl, rfl⟩
  go_wp2_with (go_at_call 11; refine (nw1 w2).mono ?_)
  rintro e w3 ⟨rfl, d3, b3, l3⟩
  have H12 : Hid (Calls Try.prog 12 #[] w3 fun e w' => e = .returned (.pointer (some ⟨w3.heap.size, 0, none⟩)) ∧ HB w w' w2.heap.size w3.heap.size DK.new DK.new none []) := nw2 w w2 w3 y1.out d3 b3 l3
  clear d3 b3 l3 H9 y1
  go_wp2_with (go_at_call 12; refine H12.out.mono ?_)
  rintro e w4 ⟨rfl, h4⟩
  generalize w2.heap.size = pb at *
  generalize w3.heap.size = rb at *
  have H4 : Hid (Both w w4 pb rb DK.new) := hb_both h4
  clear h4 H12
  go_wp2_with fail
  go_loopw [5] (fun i wr => i = .int .i64 0 ∧ wr = w4) (fun _ _ => 0)
  case atStart => exact ⟨rfl, rfl⟩
  case round =>
    obtain ⟨rfl, rfl⟩ := hrel
    go_wp2_with (go_at_call 15; refine (all_any H4.out).mono ?_)
    first | rintro e w5 rfl b5 | rintro e w5 ⟨rfl, b5⟩
    go_wp2_with fail
    go_ret
    exact ⟨rfl, b5⟩
end Go.Proofs.Ytnohidalomjfmaa
