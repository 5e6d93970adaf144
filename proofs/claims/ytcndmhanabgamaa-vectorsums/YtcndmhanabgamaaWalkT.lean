/-
  The Sums of no vectors; vectors appended to nothing.
-/
import Derived.Test.YtcndmhanabgamaaWalkS
import Derived.Laws.AppendOwn
import Derived.Laws.AppendOwnNone
import Derived.OwnWalk
namespace Go.Proofs.Ytcndmhanabgamaa
open Go.RowKit

set_option maxHeartbeats 400000 in
theorem rsum_nil (q : Option Addr) (c : Nat) (w : World) :
    Calls Try.prog 21 #[.slice q 0 c] w fun e w' => e = ansV (V.nil, 0) ∧ Below w.heap.size w w' := by
  go_enter Try.func21, Try.ntmps21
  go_wp2_with fail
  go_rounds 1
  go_rounds 1
  go_returns
  exact ⟨rfl, by go_grown⟩

set_option maxHeartbeats 400000 in
theorem sum_nil (q : Option Addr) (c : Nat) (w : World) :
    Calls Try.prog 20 #[.slice q 0 c] w fun e w' => e = ansV (V.nil, 0) ∧ Below w.heap.size w w' := by
  have HA : Hid (∀ w, Calls Try.prog 26 #[.slice q 0 c] w fun e w' => e = .returned (.bool true) ∧ Below w.heap.size w w') := fun w => allFormed_nil q c w
  go_enter Try.func20, Try.ntmps20
  go_wp2_with (go_at_call 26; refine (HA.out _).mono ?_; rintro e w1 ⟨rfl, b1⟩; have z1 := at_below b1 (Nat.le_refl _) new0; obtain ⟨r0, r1, r2, r3, rf0, rf1, rf2, rf3, rs, rn⟩ := cells4 z1; have y1 : Hid (Below w.heap.size w w1) := below_from ((Below.refl _ w).alloc (Nat.le_refl _) _) b1 (by simp))
  go_rounds 1
  have r := at_alloc (o := .cells #[.int .i64 0, .int .i64 0, .int .i64 0, .int .i64 0] 23) (at_set4 (v0 := .int .i64 0) (v1 := .int .i64 0) (v2 := .int .i64 0) (v3 := .int .i64 0) z1)
  obtain ⟨c0, c1, c2, c3, -⟩ := cells4 r
  refine bodyPost_ret (by simp [results, Try.results20, go_sem, c0, c1, c2, c3]; rfl) rfl ?_
  have y2 := (((y1.out.setCell (p := ⟨w.heap.size, 0, none⟩) (Nat.le_refl _) (.int .i64 0)).setCell (p := ⟨w.heap.size, 1, none⟩) (Nat.le_refl _) (.int .i64 0)).setCell (p := ⟨w.heap.size, 2, none⟩) (Nat.le_refl _) (.int .i64 0)).setCell (p := ⟨w.heap.size, 3, none⟩) (Nat.le_refl _) (.int .i64 0)
  exact ⟨rfl, y2.alloc y2.size _⟩


/-- the cells of vectors, one behind the other -/
def flat : List V → List Value
  | [] => []
  | v :: l => .int .i64 v.a :: .int .i64 v.b :: .int .i64 v.c :: .int .i64 v.d :: flat l

theorem flat_length (l : List V) : (flat l).length = l.length * 4 := by
  induction l with
  | nil => rfl
  | cons v l ih => simp only [flat, List.length_cons, ih]; omega

theorem flat_get (l : List V) : ∀ (i : Nat) (v : V), l[i]? = some v → (flat l)[i * 4]? = some (.int .i64 v.a) ∧ (flat l)[i * 4 + 1]? = some (.int .i64 v.b) ∧ (flat l)[i * 4 + 2]? = some (.int .i64 v.c) ∧ (flat l)[i * 4 + 3]? = some (.int .i64 v.d) := by
  induction l with
  | nil => intro i v h; simp at h
  | cons u l ih =>
    intro i v h
    match i, h with
    | 0, h =>
      obtain rfl : u = v := by simpa using h
      exact ⟨rfl, rfl, rfl, rfl⟩
    | i + 1, h =>
      have := ih i v (by simpa using h)
      simp only [flat]
      rw [show (i + 1) * 4 = i * 4 + 4 by omega]
      simpa only [List.getElem?_cons_succ, show i * 4 + 4 + 1 = i * 4 + 1 + 4 by omega, show i * 4 + 4 + 2 = i * 4 + 2 + 4 by omega, show i * 4 + 4 + 3 = i * 4 + 3 + 4 by omega] using this

theorem row_flat {w : World} {p : Nat} (l : List V) : ∀ (o : Nat), Row w p o l → ∀ j u, (flat l)[j]? = some u → w.cell? ⟨p, o + j, none⟩ = some u := by
  induction l with
  | nil => intro o _ j u h; simp [flat] at h
  | cons v l ih =>
    intro o hr j u h
    have h0 := hr 0 v rfl
    simp only [Nat.zero_mul, Nat.add_zero] at h0
    have hs : Row w p (o + 4) l := fun i x hx => by
      have := hr (i + 1) x (by simpa using hx)
      rw [show o + (i + 1) * 4 = o + 4 + i * 4 by omega] at this
      exact this
    match j, h with
    | 0, h => obtain rfl := Option.some.inj h; exact h0.1
    | 1, h => obtain rfl := Option.some.inj h; exact h0.2.1
    | 2, h => obtain rfl := Option.some.inj h; exact h0.2.2.1
    | 3, h => obtain rfl := Option.some.inj h; exact h0.2.2.2
    | j + 4, h =>
      have := ih (o + 4) hs j u (by simpa [flat] using h)
      rw [show o + (j + 4) = o + 4 + j by omega]
      exact this

theorem flat_one (l : List V) : ∀ u ∈ flat l, u.oneCell' = true := by
  induction l with
  | nil => intro u h; simp [flat] at h
  | cons v l ih =>
    intro u h
    simp only [flat, List.mem_cons] at h
    rcases h with rfl | rfl | rfl | rfl | h
    · rfl
    · rfl
    · rfl
    · rfl
    · exact ih u h

/-- a slice of vectors: none of them, or they lie there -/
def Lies (w : World) (q : Option Addr) (l : List V) : Prop := l = [] ∨ ∃ g o, q = some ⟨g, o, none⟩ ∧ Row w g o l

theorem Lies.keep {w w1 : World} {q : Option Addr} {B : Nat} {l : List V} (b : Below B w w1) (hB : w.heap.size ≤ B) (h : Lies w q l) : Lies w1 q l := by
  rcases h with h | ⟨g, o, e, hr⟩
  · exact .inl h
  · exact .inr ⟨g, o, e, hr.keep b hB⟩

theorem info23 : (Try.prog.info? 23).map (fun i => (i.zero, i.size, i.bytes)) = some (some (.agg #[.int .i64 0, .int .i64 0, .int .i64 0, .int .i64 0]), 4, 32) := by kernel_rfl

theorem append_vecs {ops : Array Oper} {rest : List Oper} {o : Oper} {a : Act} {Q : Exit → Act → World → Prop} {w : World} (hgd : o.guard = none) (s x : Operand)
    (ho : o.op = .call { callee := .builtin .append, args := #[s, x], argTypes := #[31, 31] }) (hs : a.eval s = .slice none 0 0) (ad : Addr) (c n : Nat) (l : List V) (hl : l.length = n) (hx : a.eval x = .slice (some ad) n c)
    (hr : Lies w (some ad) l) (hb : n * 32 ≤ 140737488355328)
    (h : ∀ q c' w', (n = 0 ∨ ∃ g, q = some ⟨g, 0, none⟩ ∧ Row w' g 0 l) → Below w.heap.size w w' → wpList Try.prog ops Q rest (a.put o.dst (.slice q n c')) w') :
    wpList Try.prog ops Q (o :: rest) a w := by
  obtain ⟨i0, hi, hz0, hz1, hz2⟩ := info_parts info23
  subst hl
  refine wpList_append_own _ hgd s x 31 ho w.heap.size 23 i0 (.agg #[.int .i64 0, .int .i64 0, .int .i64 0, .int .i64 0]) 4 32 Try.underlying31 hi hz0 hz1 hz2 rfl (by decide) (.slice none 0 0) 0 [] hs (World.ownsRow_nil w _ _ _) ad l.length c (flat l) hx (flat_length l)
    (fun j u hu => by
      rcases hr with rfl | ⟨p, off, e, hr⟩
      · simp [flat] at hu
      · obtain rfl := Option.some.inj e
        rw [Addr.add_lit]; exact row_flat l off hr j u hu) (flat_one l) (by unfold maxLen; omega) (by omega) (Nat.le_refl _) ?_
  intro v' w' hown hg _
  have hbel : Below w.heap.size w w' := ⟨hg.os, hg.tape, hg.output, hg.size, fun k hk => hg.block k hk (by simp [Value.ownBlock])⟩
  rw [Nat.zero_add, List.nil_append] at hown
  rcases hown.2 with ⟨rfl, h0⟩ | ⟨g, cap, cur, rfl, _⟩
  · rw [show (Value.slice none 0 0) = Value.slice none l.length 0 by rw [h0]]
    exact h _ _ _ (.inl h0) hbel
  · refine h _ _ _ (.inr ⟨g, rfl, fun i v hv => ?_⟩) hbel
    obtain ⟨f0, f1, f2, f3⟩ := flat_get l i v hv
    have hc := hown.cells (g := g) rfl
    simp only [Nat.zero_add]
    have g0 := hc _ _ f0
    have g1 := hc _ _ f1
    have g2 := hc _ _ f2
    have g3 := hc _ _ f3
    simp only [Addr.add_lit, Nat.zero_add] at g0 g1 g2 g3
    exact ⟨g0, g1, g2, g3⟩

theorem sum_gen (l : List V) (q : Option Addr) (c : Nat) (w : World) (hn : l.length < 1152921504606846976) (h : Lies w q l) :
    Calls Try.prog 20 #[.slice q l.length c] w fun e w' => e = ansV (sumR l) ∧ Below w.heap.size w w' := by
  rcases h with rfl | ⟨g, o, rfl, hr⟩
  · exact sum_nil q c w
  · exact sum_any l g o c w hn hr
theorem rsum_gen (l : List V) (q : Option Addr) (c : Nat) (w : World) (hn : l.length < 1152921504606846976) (h : Lies w q l) :
    Calls Try.prog 21 #[.slice q l.length c] w fun e w' => e = ansV (sumR l) ∧ Below w.heap.size w w' := by
  rcases h with rfl | ⟨g, o, rfl, hr⟩
  · exact rsum_nil q c w
  · exact rsum_any l g o c w hn hr

end Go.Proofs.Ytcndmhanabgamaa
