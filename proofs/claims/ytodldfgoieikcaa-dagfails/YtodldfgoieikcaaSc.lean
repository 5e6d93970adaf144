/-
  Scripts; are they few.
-/
import Derived.Test.YtodldfgoieikcaaMc
import Derived.Test.YtodldfgoieikcaaOpen
namespace Go.Proofs.Ytodldfgoieikcaa
open Go.RowKit Go.Maps

/-- a call of a script -/
structure Opr where
  kd : Int
  id : Int
  p : Option Addr
  n : Nat
  c : Nat
  ps : List Int
def Opr.cs (o : Opr) : List Value := [.int .i64 o.kd, .int .i64 o.id, .slice o.p o.n o.c]
def Scr (w : World) (q : Option Addr) (L : List Opr) : Prop := ∀ i o, L[i]? = some o → (∃ g f, q = some ⟨g, f, none⟩ ∧ w.cell? ⟨g, f + i * 3, none⟩ = some (.int .i64 o.kd) ∧ w.cell? ⟨g, f + i * 3 + 1, none⟩ = some (.int .i64 o.id) ∧ w.cell? ⟨g, f + i * 3 + 2, none⟩ = some (.slice o.p o.n o.c)) ∧ o.n = o.ps.length ∧ AI w o.p o.ps ∧ o.n ≤ maxLen
theorem Scr.below {w w1 : World} {q : Option Addr} {L : List Opr} (h : Scr w q L) (k : Below w.heap.size w w1) : Scr w1 q L := fun i o ho => by
  obtain ⟨⟨g, f, e, h1, h2, h3⟩, h4, h5, h6⟩ := h i o ho
  exact ⟨⟨g, f, e, cell_below h1 k, cell_below h2 k, cell_below h3 k⟩, h4, h5.below k, h6⟩
@[irreducible] def fewB (L : List Opr) : Bool := (L.all fun o => decide (o.n ≤ 300)) && decide (L.length ≤ 150)
theorem few_yes {L : List Opr} (h : fewB L = true) : L.length ≤ 150 ∧ ∀ o ∈ L, o.n ≤ 300 := by
  unfold fewB at h
  rw [Bool.and_eq_true, List.all_eq_true, decide_eq_true_iff] at h
  exact ⟨h.2, fun o ho => of_decide_eq_true (h.1 o ho)⟩
theorem few_at {L : List Opr} (h : ∀ o ∈ L, o.n ≤ 300) : fewB L = decide (L.length ≤ 150) := by
  unfold fewB
  rw [show (L.all fun o => decide (o.n ≤ 300)) = true from List.all_eq_true.2 fun o ho => decide_eq_true (h o ho)]
  rfl
theorem few_no {L : List Opr} {o : Opr} (ho : o ∈ L) (h : ¬ o.n ≤ 300) : fewB L = false := by
  unfold fewB
  rw [show (L.all fun o => decide (o.n ≤ 300)) = false from List.all_eq_false.2 ⟨o, ho, by simpa using h⟩]
  rfl
set_option maxHeartbeats 1000000 in
set_option maxRecDepth 100000 in
theorem few_any (w : World) (q : Option Addr) (n c : Nat) (L : List Opr) (hn : n = L.length) (hS : Scr w q L) (h9 : n ≤ 9223372036854775807) : Calls Try.prog 10 #[.slice q n c] w fun e w' => e = .returned (.bool (fewB L)) ∧ w' = w := by
  have HS : Hid (n = L.length ∧ Scr w q L) := ⟨hn, hS⟩
  clear hn hS
  go_enter Try.func10, Try.ntmps10
  go_wp2_with fail
  go_loopw [3] (fun t wr => ∃ i : Nat, t = .int .i64 i ∧ i ≤ n ∧ wr = w ∧ Hid (∀ (j : Nat) (o : Opr), j < i → L[j]? = some o → o.n ≤ 300)) (fun t _ => n - (intOf t).toNat)
  case atStart => exact ⟨0, rfl, Nat.zero_le _, rfl, fun j _ hj => absurd hj (by omega)⟩
  case round =>
    obtain ⟨i, rfl, hin, rfl, HI⟩ := hrel
    by_cases hi : i < n
    · have hi' : (i : Int) < (n : Int) := by omega
      obtain ⟨o, ho⟩ : ∃ o, L[i]? = some o := ⟨_, List.getElem?_eq_getElem (by have := HS.out.1; omega)⟩
      obtain ⟨⟨g, f, rfl, -, -, s2⟩, -, -, hm⟩ := HS.out.2 i o ho
      have hm' : (o.n : Int) ≤ 9223372036854775807 := by unfold maxLen at hm; omega
      have HO : Hid (L[i]? = some o) := ho
      clear ho hm
      by_cases h3 : 300 < o.n
      · have h3' : decide ((300 : Int) < (o.n : Int)) = true := decide_eq_true (by omega)
        have HX : Hid (fewB L = false) := few_no (List.mem_of_getElem? HO.out) (by omega)
        clear h3
        go_wp2_with fail
        go_ret
        exact ⟨ret_b HX.out.symm, rfl⟩
      · have h3' : decide ((300 : Int) < (o.n : Int)) = false := decide_eq_false (by omega)
        have h3'' : ¬ (300 : Int) < (o.n : Int) := by omega
        have HX : Hid (∀ (j : Nat) (o : Opr), j < i + 1 → L[j]? = some o → o.n ≤ 300) := fun j z hj hz => by
          by_cases e : j = i
          · subst e; rw [HO.out] at hz; cases hz; omega
          · exact HI.out j z (by omega) hz
        go_wp2_with fail
        refine ⟨⟨i + 1, by simp, by omega, by first | rfl | trivial, HX.out⟩, ?_⟩
        simp [intOf]
        omega
    · have hi' : ¬ (i : Int) < (n : Int) := by omega
      have HX : Hid (fewB L = decide (n ≤ 150)) := by
        show fewB L = _
        rw [few_at fun o ho => ?_, HS.out.1]
        obtain ⟨j, hj⟩ := List.getElem?_of_mem ho
        exact HI.out j o (by have := (List.getElem?_eq_some_iff.1 hj).1; have := HS.out.1; omega) hj
      go_wp2_with fail
      go_ret
      refine ⟨ret_b ?_, rfl⟩
      rw [HX.out]
      first | (exact decide_eq_decide.2 (by omega)) | simp
/-! ### opened -/
section
open Go.ChangeShapes Go.WideShapes Go.ChangeAt
variable {H : Type} {enc : TypeId × Value → H} {W : World} {base : Nat} {spare : Nat → Bool} {held : Bool}
theorem len3 {l : List Value} (h : l.length = 3) : ∃ c0 c1 c2, l = [c0, c1, c2] := by
  match l, h with
  | [c0, c1, c2], _ => exact ⟨c0, c1, c2, rfl⟩
theorem trod_struct3' {P : Program} {t : TypeId} {f0 f1 f2 : Field} {fuel : Nat} {cs : List Value} {x : DataW H × List MemPlace} (ht : P.underlying t = some (.struct #[f0, f1, f2])) (h : DataW.trod enc P W base spare held fuel t cs = some x) :
    ∃ y0 y1 y2 n, cs.length = P.cellsOf t ∧ DataW.trod enc P W base spare held n f0.type ((cs.drop f0.offset).take (P.cellsOf f0.type)) = some y0 ∧ DataW.trod enc P W base spare held n f1.type ((cs.drop f1.offset).take (P.cellsOf f1.type)) = some y1 ∧ DataW.trod enc P W base spare held n f2.type ((cs.drop f2.offset).take (P.cellsOf f2.type)) = some y2 := by
  obtain ⟨xs, n, _, rfl, hl, hlen, hf⟩ := DataW.trod_struct ht h
  match xs, hlen with
  | [y0, y1, y2], _ => exact ⟨y0, y1, y2, n, hl, by simpa using hf 0 f0 rfl, by simpa using hf 1 f1 rfl, by simpa using hf 2 f2 rfl⟩
theorem elem34 {fuel : Nat} {cs : List Value} {x : DataW H × List MemPlace} (h : DataW.trod enc Try.prog W base spare held fuel 34 cs = some x) : ∃ o : Opr, cs = o.cs ∧ (o.n = o.ps.length ∧ AI W o.p o.ps ∧ o.n ≤ maxLen) := by
  obtain ⟨y0, y1, y2, n, hl, h0, h1, h2⟩ := trod_struct3' Try.underlying34 h
  rw [cellsOf34] at hl
  obtain ⟨c0, c1, c2, rfl⟩ := len3 hl
  simp only [List.drop_zero, List.drop_succ_cons, cellsOf3, cellsOf2, cellsOf32, List.take_succ_cons, List.take_zero] at h0 h1 h2
  obtain ⟨n0, e0, _, _⟩ := DataW.trod_int Try.underlying3 h0
  obtain ⟨n1, e1, _, _⟩ := DataW.trod_int Try.underlying2 h1
  obtain ⟨q, c, L, e2, _, hA, hm⟩ := open_ints h2
  simp only [List.cons.injEq, and_true] at e0 e1
  exact ⟨⟨n0, n1, q, L.length, c, L⟩, by rw [e0, e1, e2]; rfl, rfl, hA, hm⟩
theorem ops_at : ∀ {L : List Opr} {i : Nat} {o : Opr}, L[i]? = some o → ∀ j, j < 3 → (L.flatMap Opr.cs)[i * 3 + j]? = o.cs[j]?
  | [], i, o, h, j, hj => by simp at h
  | a :: r, 0, o, h, j, hj => by
    have e : a = o := by simpa using h
    subst e
    rw [List.flatMap_cons, Nat.zero_mul, Nat.zero_add, List.getElem?_append_left (by simpa [Opr.cs] using hj)]
  | a :: r, i + 1, o, h, j, hj => by
    have ih := ops_at (L := r) (i := i) (o := o) (by simpa using h) j hj
    rw [List.flatMap_cons, List.getElem?_append_right (by simp [Opr.cs]; omega), show (i + 1) * 3 + j - a.cs.length = i * 3 + j by simp [Opr.cs]; omega]
    exact ih
theorem open_script {v : Value} {x : DataW H} {p : List MemPlace} {r : Reach} {b0 : Nat} (hv : Value.okWide Try.prog W r b0 22 v) (h : DataW.Trod enc Try.prog W base spare held 22 v x p) :
    ∃ (q : Option Addr) (c : Nat) (L : List Opr), v = .slice q L.length c ∧ Scr W q L ∧ L.length ≤ maxLen := by
  obtain ⟨a0, len, cap, rfl⟩ := okWide_slice Try.underlying22 hv
  obtain ⟨fuel, hf⟩ := h
  obtain ⟨q, c, L, h1, _, h2, _, h4, h5⟩ := open_list Try.underlying22 Opr.cs (fun _ => rfl) cellsOf34 (by decide) (fun o _ => o.n = o.ps.length ∧ AI W o.p o.ps ∧ o.n ≤ maxLen) (fun n cs x h => elem34 h) (show DataW.trod enc Try.prog W base spare held fuel 22 [.slice a0 len cap] = some (x, p) from hf)
  refine ⟨q, c, L, h1, fun i o ho => ?_, h5⟩
  obtain ⟨_, hq, _⟩ := h4 o (List.mem_of_getElem? ho)
  refine ⟨?_, hq⟩
  have k := ops_at ho
  rcases h2 with e | ⟨g, f, rfl, hr⟩
  · have := k 0 (by omega)
    rw [e] at this
    simp [Opr.cs] at this
  · have key : ∀ j, j < 3 → ∀ u, o.cs[j]? = some u → W.cell? ⟨g, f + i * 3 + j, none⟩ = some u := fun j hj u hu => by
      have := hr (i * 3 + j) u (by rw [k j hj]; exact hu)
      rwa [← Nat.add_assoc] at this
    exact ⟨g, f, rfl, key 0 (by omega) _ rfl, key 1 (by omega) _ rfl, key 2 (by omega) _ rfl⟩
end
end Go.Proofs.Ytodldfgoieikcaa
