/-
  Graphs whose parents are lesser numbers; lists of lists of bytes.
-/
import Derived.Test.YtodldfgoieikcaaLe
namespace Go.Proofs.Ytodldfgoieikcaa
open Go.RowKit Go.Maps

/-- a list of bytes -/
structure Bl where
  p : Option Addr
  n : Nat
  c : Nat
  bs : List Nat
def Ll (w : World) (q : Option Addr) (L : List Bl) : Prop := ∀ (i : Nat) (o : Bl), L[i]? = some o → (∃ g f, q = some ⟨g, f, none⟩ ∧ w.cell? ⟨g, f + i, none⟩ = some (.slice o.p o.n o.c)) ∧ o.n = o.bs.length ∧ (∀ (k x : Nat), o.bs[k]? = some x → x < 256 ∧ ∃ g f, o.p = some ⟨g, f, none⟩ ∧ w.cell? ⟨g, f + k, none⟩ = some (.int .u8 x)) ∧ o.n ≤ maxLen
theorem Ll.below {w w1 : World} {q : Option Addr} {L : List Bl} (h : Ll w q L) (k : Below w.heap.size w w1) : Ll w1 q L := fun i o ho => by
  obtain ⟨⟨g, f, e, h1⟩, h4, h5, h6⟩ := h i o ho
  refine ⟨⟨g, f, e, cell_below h1 k⟩, h4, fun j x hx => ?_, h6⟩
  obtain ⟨h7, g', f', e', h8⟩ := h5 j x hx
  exact ⟨h7, g', f', e', cell_below h8 k⟩
section
open Go.ChangeShapes Go.WideShapes Go.ChangeAt
variable {H : Type} {enc : TypeId × Value → H} {W : World} {base : Nat} {spare : Nat → Bool} {held : Bool}
theorem elem5 {fuel : Nat} {cs : List Value} {x : DataW H × List MemPlace} (h : DataW.trod enc Try.prog W base spare held fuel 5 cs = some x) : ∃ n : Nat, cs = [.int .u8 n] ∧ n < 256 := by
  obtain ⟨n, e, _, wf⟩ := DataW.trod_int Try.underlying5 h
  have hz : 0 ≤ n ∧ n ≤ 255 := by simpa [Lit.wf, IntKind.min, IntKind.max, IntKind.signed, IntKind.bits] using wf
  refine ⟨n.toNat, ?_, by omega⟩
  rw [e]
  congr 2
  omega
theorem u8_flat (l : List Nat) : l.flatMap (fun n : Nat => [Value.int .u8 n]) = l.map fun n : Nat => Value.int .u8 n := by
  induction l with
  | nil => rfl
  | cons a r ih => rw [List.flatMap_cons, ih]; rfl
theorem elem43 {fuel : Nat} {cs : List Value} {x : DataW H × List MemPlace} (h : DataW.trod enc Try.prog W base spare held fuel 43 cs = some x) (hl : cs.length = 1) : ∃ o : Bl, cs = [.slice o.p o.n o.c] ∧ (o.n = o.bs.length ∧ (∀ (k x : Nat), o.bs[k]? = some x → x < 256 ∧ ∃ g f, o.p = some ⟨g, f, none⟩ ∧ W.cell? ⟨g, f + k, none⟩ = some (.int .u8 x)) ∧ o.n ≤ maxLen) := by
  match cs, hl with
  | [v], _ =>
    obtain ⟨q, c, L, h1, _, h3, _, h5, h6⟩ := open_list Try.underlying43 (fun n : Nat => [Value.int .u8 n]) (fun _ => rfl) cellsOf5 (by decide) (fun n _ => n < 256) (fun n cs x h => elem5 h) h
    rw [u8_flat] at h3
    refine ⟨⟨q, L.length, c, L⟩, by rw [h1], rfl, fun k x hx => ?_, h6⟩
    obtain ⟨_, hx2, _⟩ := h5 x (List.mem_of_getElem? hx)
    refine ⟨hx2, ?_⟩
    rcases h3 with e | ⟨g, o, rfl, hr⟩
    · have : L = [] := by cases L with
        | nil => rfl
        | cons a r => simp at e
      subst this
      simp at hx
    · exact ⟨g, o, rfl, hr k _ (by rw [List.getElem?_map, hx]; rfl)⟩
theorem flat1 (L : List Bl) : L.flatMap (fun o : Bl => [Value.slice o.p o.n o.c]) = L.map fun o : Bl => Value.slice o.p o.n o.c := by
  induction L with
  | nil => rfl
  | cons a r ih => rw [List.flatMap_cons, ih]; rfl
theorem trod43_len {fuel : Nat} {cs : List Value} {x : DataW H × List MemPlace} (h : DataW.trod enc Try.prog W base spare held fuel 43 cs = some x) : cs.length = 1 := by
  rcases DataW.trod_slice Try.underlying43 h with ⟨hcs, _⟩ | ⟨a, len', cap', elems, rest, n, _, hcs, _⟩
  · rw [hcs]; rfl
  · rw [hcs]; rfl
theorem open_lists {v : Value} {x : DataW H} {p : List MemPlace} {r : Reach} {b0 : Nat} (hv : Value.okWide Try.prog W r b0 42 v) (h : DataW.Trod enc Try.prog W base spare held 42 v x p) :
    ∃ (q : Option Addr) (c : Nat) (L : List Bl), v = .slice q L.length c ∧ Ll W q L ∧ L.length ≤ maxLen := by
  obtain ⟨a0, len, cap, rfl⟩ := okWide_slice Try.underlying42 hv
  obtain ⟨fuel, hf⟩ := h
  obtain ⟨q, c, L, h1, _, h2, _, h4, h5⟩ := open_list Try.underlying42 (fun o : Bl => [Value.slice o.p o.n o.c]) (fun _ => rfl) cellsOf43 (by decide) (fun (o : Bl) _ => o.n = o.bs.length ∧ (∀ (k x : Nat), o.bs[k]? = some x → x < 256 ∧ ∃ g f, o.p = some ⟨g, f, none⟩ ∧ W.cell? ⟨g, f + k, none⟩ = some (.int .u8 x)) ∧ o.n ≤ maxLen) (fun n cs x h => elem43 h (trod43_len h)) (show DataW.trod enc Try.prog W base spare held fuel 42 [.slice a0 len cap] = some (x, p) from hf)
  refine ⟨q, c, L, h1, fun i o ho => ?_, h5⟩
  obtain ⟨_, hq, _⟩ := h4 o (List.mem_of_getElem? ho)
  refine ⟨?_, hq⟩
  rw [flat1] at h2
  rcases h2 with e | ⟨g, f, rfl, hr⟩
  · have : L = [] := by cases L with
      | nil => rfl
      | cons a r => simp at e
    subst this
    simp at ho
  · exact ⟨g, f, rfl, hr i _ (by rw [List.getElem?_map, ho]; rfl)⟩
end
/-- i jobs, open, with lesser parents -/
structure Gi (g : GS) (i : Nat) : Prop where
  a : ∀ n, 1 ≤ n → n ≤ i → g.st n = 1
  z : ∀ n, n < 101 → (n = 0 ∨ i < n) → g.st n = 0 ∧ ∀ j, j < 101 → g.ps n j = false
  l : ∀ n j, n < 101 → j < 101 → g.ps n j = true → 1 ≤ j ∧ j < n
theorem gi_zero : Gi g0 0 := ⟨fun n h1 h2 => by omega, fun n _ _ => ⟨rfl, fun _ _ => rfl⟩, fun n j _ _ h => (by cases h)⟩
theorem Gi.st {g : GS} {i n : Nat} (h : Gi g i) (hn : n < 101) : g.st n ≤ 1 := by
  by_cases h1 : 1 ≤ n ∧ n ≤ i
  · rw [h.a n h1.1 h1.2]; omega
  · rw [(h.z n hn (by omega)).1]; omega
theorem Gi.add {g g' : GS} {i : Nat} {E : List Int} {a : Bool} {er : Int} (h : Gi g i) (hi : i < 100) (hE : ∀ y ∈ E, 1 ≤ y ∧ y ≤ (i : Int)) (hr : AddR g ((i + 1 : Nat) : Int) E a er g') : er = 0 ∧ a = decide (E.length = 0) ∧ g' = g.add (i + 1) (stI E) ∧ Gi g' (i + 1) := by
  have hN : allN E = true := List.all_eq_true.2 fun y hy => isN_iff.2 (by have := hE y hy; omega)
  have hsE : ∀ j, stI E j = true → 1 ≤ j ∧ j ≤ i := fun j hj => by
    unfold stI at hj
    rw [inB_iff] at hj
    have := hE _ hj
    omega
  have hz := h.z (i + 1) (by omega) (.inr (by omega))
  have hnr : ¬ Rch g.ps (stI E) (i + 1) := fun q => by
    have key : ∀ y, Rch g.ps (stI E) y → y ≤ i := by
      intro y q
      induction q with
      | base h1 h2 => exact (hsE _ h2).2
      | step h1 h2 h3 ih => have := (h.l _ _ h1.lt h2 h3).2; omega
    have := key _ q
    omega
  have haf : afB g (stI E) = false := by
    cases e : afB g (stI E)
    · rfl
    · obtain ⟨j, h1, _, h3⟩ := afB_iff.1 e
      have := h.st h1
      omega
  obtain ⟨e1, e2, e3⟩ := hr.uniq (.ok (i + 1) hN rfl (by omega) (by omega) hz.1 hnr haf)
  have hG : Gi (g.add (i + 1) (stI E)) (i + 1) := by
    unfold GS.add
    refine ⟨fun n h1 h2 => ?_, fun n hn hq => ?_, fun n j hn hj hp => ?_⟩
    · simp only []
      by_cases e : n = i + 1
      · rw [if_pos e]
      · rw [if_neg e]; exact h.a n h1 (by omega)
    · simp only []
      have e : n ≠ i + 1 := by omega
      rw [if_neg e, if_neg e]
      exact h.z n hn (by omega)
    · simp only [] at hp
      by_cases e : n = i + 1
      · rw [if_pos e] at hp
        have := hsE j hp
        omega
      · rw [if_neg e] at hp
        exact h.l n j hn hj hp
  refine ⟨e2, ?_, e3, by rw [e3]; exact hG⟩
  rw [e1]
  cases E with
  | nil =>
    have : frB (g.add (i + 1) (stI [])) (i + 1) = true := by
      refine frB_iff.2 ⟨hG.a (i + 1) (by omega) (Nat.le_refl _), fun j hj hp => ?_⟩
      unfold GS.add at hp
      simp only [if_pos] at hp
      rw [stI_nil] at hp
      cases hp
    rw [this]
    rfl
  | cons y E =>
    have hy := hE y (by simp)
    obtain ⟨ny, e⟩ : ∃ ny : Nat, y = ny := ⟨y.toNat, by omega⟩
    have : frB (g.add (i + 1) (stI (y :: E))) (i + 1) = false := frB_no fun q => by
      have h2 := q.2 ny (by omega) (by
        unfold GS.add
        simp only [if_pos]
        unfold stI
        rw [inB_iff, ← e]
        simp)
      have h3 := hG.a ny (by omega) (by omega)
      omega
    rw [this]
    simp
/-- the parents that the law gives a job -/
def prn (i : Nat) (bs : List Nat) (k : Nat) : List Int := (bs.take k).map fun b => 1 + ((b % i : Nat) : Int)
theorem prn_succ {i : Nat} {bs : List Nat} {k b : Nat} (h : bs[k]? = some b) : prn i bs (k + 1) = prn i bs k ++ [1 + ((b % i : Nat) : Int)] := by
  unfold prn
  rw [List.take_add_one, h]
  simp
theorem prn_len (i : Nat) (bs : List Nat) (k : Nat) : (prn i bs k).length ≤ k := by
  unfold prn
  simp
  omega
theorem prn_mem {i : Nat} {bs : List Nat} {k : Nat} (hi : 0 < i) : ∀ y ∈ prn i bs k, 1 ≤ y ∧ y ≤ (i : Int) := fun y hy => by
  unfold prn at hy
  obtain ⟨b, _, rfl⟩ := List.mem_map.1 hy
  have := Nat.mod_lt b hi
  omega
end Go.Proofs.Ytodldfgoieikcaa
