/-
  MinmaxPlays' law.
-/
import Derived.Test.YtbaffgkopgbknaaZl
namespace Go.Proofs.Ytbaffgkopgbknaa
open Go.RowKit Go.Maps

/-- a script's call -/
structure OpR where
  kd : Int
  x : Int
  k : K
structure OpR.ok (o : OpR) : Prop where
  x : (Lit.int .i64 o.x).wf = true
  k : o.k.ok
def OpR.cs (o : OpR) : List Value := [.int .i64 o.kd, .int .i64 o.x, .int .i64 o.k.a, .int .i64 o.k.b, .int .i64 o.k.c]
def oflat (l : List OpR) : List Value := l.flatMap OpR.cs
structure Scr (w : World) (q : Option Addr) (l : List OpR) : Prop where
  row : l = [] ∨ ∃ g o, q = some ⟨g, o, none⟩ ∧ RowV w g o (oflat l)
  each : ∀ o ∈ l, o.ok
theorem Scr.keep {w w1 : World} {q : Option Addr} {l : List OpR} (h : Scr w q l) (b : Below w.heap.size w w1) : Scr w1 q l := by
  refine ⟨?_, h.each⟩
  rcases h.row with h0 | ⟨g, o, e, hr⟩
  · exact .inl h0
  · exact .inr ⟨g, o, e, hr.keep b (Nat.le_refl _)⟩
theorem oflat_get : ∀ (l : List OpR) (i : Nat) (o : OpR) (j : Nat) (u : Value), l[i]? = some o → o.cs[j]? = some u → j < 5 → (oflat l)[i * 5 + j]? = some u
  | [], i, o, j, u, h, _, _ => by simp at h
  | p :: l, 0, o, j, u, h, hu, hj => by
    have e : p = o := by simpa using h
    subst e
    show (p.cs ++ oflat l)[0 * 5 + j]? = some u
    rw [Nat.zero_mul, Nat.zero_add, List.getElem?_append_left (by show j < 5; exact hj)]
    exact hu
  | p :: l, i + 1, o, j, u, h, hu, hj => by
    show (p.cs ++ oflat l)[(i + 1) * 5 + j]? = some u
    rw [List.getElem?_append_right (by show 5 ≤ _; omega)]
    rw [show (i + 1) * 5 + j - p.cs.length = i * 5 + j by show (i + 1) * 5 + j - 5 = _; omega]
    exact oflat_get l i o j u (by simpa using h) hu hj
theorem Scr.at {w : World} {q : Option Addr} {l : List OpR} (h : Scr w q l) {i : Nat} (hi : i < l.length) : ∃ g f, q = some ⟨g, f, none⟩ ∧ l[i].ok ∧ w.cell? ⟨g, f + i * 5, none⟩ = some (.int .i64 l[i].kd) ∧ w.cell? ⟨g, f + i * 5 + 1, none⟩ = some (.int .i64 l[i].x) ∧ w.cell? ⟨g, f + i * 5 + 2, none⟩ = some (.int .i64 l[i].k.a) ∧ w.cell? ⟨g, f + i * 5 + 3, none⟩ = some (.int .i64 l[i].k.b) ∧ w.cell? ⟨g, f + i * 5 + 4, none⟩ = some (.int .i64 l[i].k.c) := by
  have hr0 : l[i]? = some l[i] := List.getElem?_eq_getElem _
  have hne : l ≠ [] := by rintro rfl; simp at hi
  obtain ⟨g, f, rfl, hrow⟩ := h.row.resolve_left hne
  refine ⟨g, f, rfl, h.each _ (List.getElem_mem _), ?_, ?_, ?_, ?_, ?_⟩
  · exact hrow (i * 5 + 0) _ (oflat_get l i _ 0 _ hr0 rfl (by omega))
  · exact hrow (i * 5 + 1) _ (oflat_get l i _ 1 _ hr0 rfl (by omega))
  · exact hrow (i * 5 + 2) _ (oflat_get l i _ 2 _ hr0 rfl (by omega))
  · exact hrow (i * 5 + 3) _ (oflat_get l i _ 3 _ hr0 rfl (by omega))
  · exact hrow (i * 5 + 4) _ (oflat_get l i _ 4 _ hr0 rfl (by omega))
/-- both heaps in a run -/
def Pr (w wr : World) (hb rb i : Nat) : Prop := ∃ l, l.length ≤ i ∧ Bt w wr hb rb l NoP
theorem pr_new (w w1 : World) (b : Below w.heap.size w w1) : Pr w ((w1.alloc (.cells zeroH 58)).alloc (.cells #[.slice none 0 0] 29)) w1.heap.size (w1.heap.size + 1) 0 := by
  have e1 : (w1.alloc (.cells zeroH 58)).heap.size = w1.heap.size + 1 := by simp
  have b1 : Below w1.heap.size w1 (w1.alloc (.cells zeroH 58)) := (Below.refl _ w1).alloc (Nat.le_refl _) _
  have b2 : Below (w1.alloc (.cells zeroH 58)).heap.size (w1.alloc (.cells zeroH 58)) ((w1.alloc (.cells zeroH 58)).alloc (.cells #[.slice none 0 0] 29)) := (Below.refl _ _).alloc (Nat.le_refl _) _
  have hbs := b.size
  refine ⟨[], Nat.le_refl _, ⟨zS, .slice none 0 0, ?_, ⟨by rw [← e1]; exact new0, World.ownsRow_nil _ 0 78 4⟩, fun k q => ?_, fun k q => ?_⟩, nofun, (b.trans (b1.mono b.size)).trans (b2.mono (by rw [e1]; omega)), nofun⟩
  · have := hc_zero ((new_blk w1).at (b2.block _ (new_blk w1).lt))
    have hr : rcont [] = Ct.nil := by
      funext x
      unfold rcont Ct.nil
      split
      · rfl
      · simp
    rw [hr]
    exact this
  · have hk : k = w1.heap.size := by
      rcases q with q | q | q | q
      · exact q
      · simp [zS] at q
      · cases q
      · cases q
    subst hk
    exact ⟨b.size, by omega, nofun, nofun⟩
  · rcases q with q | q
    · subst q; exact ⟨by omega, nofun⟩
    · cases q
set_option maxHeartbeats 4000000 in
theorem plays_law (q1 : Option Addr) (c1 : Nat) (L : List OpR) (w : World) (hL : Hid (Scr w q1 L)) :
    Calls Try.prog 3 #[.slice q1 L.length c1] w fun e w' => e = .returned (.bool true) ∧ Below w.heap.size w w' := by
  have H8 : Hid (∀ w, Calls Try.prog 8 #[] w fun e w' => e = .returned (.bool true) ∧ Below w.heap.size w w') := awake_any
  have H9 : Hid (∀ w, Calls Try.prog 9 #[] w fun e w' => e = .returned (.pointer (some ⟨w.heap.size, 0, none⟩)) ∧ w' = w.alloc (.cells zeroH 58)) := fun w => new_at w
  go_enter Try.func3, Try.ntmps3
  by_cases hn : 500 < L.length
  · have hn' : (500 : Int) < (L.length : Int) := by omega
    go_upto_region 2 with (go_at_call 8; refine (H8.out _).mono ?_; rintro e w1 ⟨rfl, b1⟩)
    have B1 : Hid (Below w.heap.size w w1) := b1
    clear b1
    go_wp2_with (go_at_call 8; refine (H8.out _).mono ?_; rintro e w2 ⟨rfl, b2⟩)
    go_ret
    exact ⟨rfl, B1.out.trans (b2.mono B1.out.size)⟩
  · have hn' : ¬ (500 : Int) < (L.length : Int) := by omega
    go_upto_region 3 with (go_at_call 8; refine (H8.out _).mono ?_; rintro e w1 ⟨rfl, b1⟩)
    have B1 : Hid (Below w.heap.size w w1) := b1
    clear b1
    go_upto_region 5 with (go_at_call 9; refine (H9.out _).mono ?_; rintro e w2 ⟨rfl, rfl⟩)
    have L0 : Hid (Pr w ((w1.alloc (.cells zeroH 58)).alloc (.cells #[.slice none 0 0] 29)) w1.heap.size (w1.heap.size + 1) 0) := pr_new w w1 B1.out
    generalize (w1.alloc (.cells zeroH 58)).alloc (.cells #[.slice none 0 0] 29) = W at *
    generalize w1.heap.size = hb at *
    clear B1 H8 H9
    go_wp2_with fail
    go_loopw [5] (fun t wr => ∃ i : Nat, i ≤ L.length ∧ t = .int .i64 i ∧ Hid (Pr w wr hb (hb + 1) i)) (fun t _ => L.length - (intOf t).toNat)
    case atStart => exact ⟨0, Nat.zero_le _, rfl, L0.out⟩
    case round =>
      obtain ⟨i, hi, rfl, HE⟩ := hrel
      clear L0
      by_cases hil : i < L.length
      · have hil' : (i : Int) < (L.length : Int) := by omega
        obtain ⟨l, hll, hB⟩ := HE.out
        obtain ⟨g, f, eq1, hok, d0, d1, d2, d3, d4⟩ := (hL.out.keep (w1 := wr) (by exact hB.b)).at hil
        subst eq1
        have H10 : Hid (Calls Try.prog 10 #[.pointer (some ⟨hb, 0, none⟩), .pointer (some ⟨hb + 1, 0, none⟩), .agg #[.int .i64 L[i].kd, .int .i64 L[i].x, .int .i64 L[i].k.a, .int .i64 L[i].k.b, .int .i64 L[i].k.c]] wr fun e w' => e = .returned (.bool true) ∧ Hid (Calls Try.prog 11 #[.pointer (some ⟨hb, 0, none⟩), .pointer (some ⟨hb + 1, 0, none⟩)] w' fun e w2 => e = .returned (.bool true) ∧ Hid (Pr w w2 hb (hb + 1) (i + 1)))) := by
          refine (step_any hB L[i].kd hok.k hok.x (by omega)).mono ?_
          rintro e w' ⟨rfl, l', hl', hB'⟩
          refine ⟨rfl, (ends_law hB' (by omega)).mono ?_⟩
          rintro e w2 ⟨rfl, b2⟩
          exact ⟨rfl, l', by omega, Bm.below hB' b2⟩
        clear HE hB hok hll
        generalize L[i] = oo at *
        go_wp2_with (first | (go_at_call 10; refine H10.out.mono ?_; first | rintro e w2 rfl h2 | rintro e w2 ⟨rfl, h2⟩) | (go_at_call 11; refine h2.out.mono ?_; first | rintro e w3 rfl h3 | rintro e w3 ⟨rfl, h3⟩))
        exact ⟨⟨i + 1, by omega, by go_num, h3.out⟩, by simp [intOf]; omega⟩
      · have hil' : ¬ (i : Int) < (L.length : Int) := by omega
        have HB : Hid (Below w.heap.size w wr) := by
          obtain ⟨l, _, hB⟩ := HE.out
          exact hB.b
        go_wp2_with fail
        go_ret
        exact ⟨rfl, HB.out⟩
end Go.Proofs.Ytbaffgkopgbknaa
