/-
  The reference's graph: a row of jobs; a job looked for.
-/
import Derived.Test.YtodldfgoieikcaaLa
namespace Go.Proofs.Ytodldfgoieikcaa
open Go.RowKit Go.Maps

structure JB where
  id : Nat
  st : Nat
  p : Option Addr
  n : Nat
  c : Nat
  ps : List Int
def JB.cs (b : JB) : List Value := [.int .i64 b.id, .slice b.p b.n b.c, .int .i64 b.st]
def jbs (R : List JB) : List Value := R.flatMap JB.cs
theorem jbs_len : ∀ R : List JB, (jbs R).length = R.length * 3
  | [] => rfl
  | b :: R => by
    have := jbs_len R
    unfold jbs at *
    rw [List.flatMap_cons, List.length_append, this]
    simp [JB.cs]
    omega
theorem jbs_at : ∀ {R : List JB} {i : Nat} {b : JB}, R[i]? = some b → ∀ j, j < 3 → (jbs R)[i * 3 + j]? = b.cs[j]?
  | [], i, b, h, j, hj => by simp at h
  | a :: r, 0, b, h, j, hj => by
    have e : a = b := by simpa using h
    subst e
    unfold jbs
    rw [List.flatMap_cons, Nat.zero_mul, Nat.zero_add, List.getElem?_append_left (by simpa [JB.cs] using hj)]
  | a :: r, i + 1, b, h, j, hj => by
    have ih := jbs_at (R := r) (i := i) (b := b) (by simpa using h) j hj
    unfold jbs at *
    rw [List.flatMap_cons, List.getElem?_append_right (by simp [JB.cs]; omega), show (i + 1) * 3 + j - a.cs.length = i * 3 + j by simp [JB.cs]; omega]
    exact ih
theorem jbs_one {R : List JB} : ∀ u ∈ jbs R, u.oneCell' = true := by
  intro u hu
  unfold jbs at hu
  obtain ⟨b, _, hb⟩ := List.mem_flatMap.1 hu
  simp only [JB.cs, List.mem_cons, List.not_mem_nil, or_false] at hb
  rcases hb with rfl | rfl | rfl <;> rfl
/-- jobs that rise, with states and parents as they may be -/
structure Jok (R : List JB) : Prop where
  s : R.Pairwise fun a b => a.id < b.id
  g : ∀ b ∈ R, 1 ≤ b.id ∧ b.id ≤ 100 ∧ 1 ≤ b.st ∧ b.st ≤ 3
  q : ∀ b ∈ R, b.n = b.ps.length ∧ b.n ≤ 101 ∧ Ris b.ps ∧ ∀ x ∈ b.ps, isN x = true
theorem Jok.lt {R : List JB} (h : Jok R) {i j : Nat} {a b : JB} (hij : i < j) (hi : R[i]? = some a) (hj : R[j]? = some b) : a.id < b.id := by
  obtain ⟨h1, rfl⟩ := List.getElem?_eq_some_iff.1 hi
  obtain ⟨h2, rfl⟩ := List.getElem?_eq_some_iff.1 hj
  exact List.pairwise_iff_getElem.1 h.s i j h1 h2 hij
theorem Jok.inj {R : List JB} (h : Jok R) {i j : Nat} {a b : JB} (hi : R[i]? = some a) (hj : R[j]? = some b) (e : a.id = b.id) : i = j := by
  rcases Nat.lt_trichotomy i j with q | q | q
  · have := h.lt q hi hj; omega
  · exact q
  · have := h.lt q hj hi; omega
theorem Jok.idge {R : List JB} (h : Jok R) : ∀ {i : Nat} {a : JB}, R[i]? = some a → i + 1 ≤ a.id
  | 0, a, ha => (h.g a (List.mem_of_getElem? ha)).1
  | i + 1, a, ha => by
    obtain ⟨b, hb⟩ : ∃ b, R[i]? = some b := ⟨_, List.getElem?_eq_getElem (by have := (List.getElem?_eq_some_iff.1 ha).1; omega)⟩
    have h1 := h.idge hb
    have h2 := h.lt (Nat.lt_succ_self i) hb ha
    omega
theorem Jok.len {R : List JB} (h : Jok R) : R.length ≤ 100 := by
  rcases Nat.eq_zero_or_pos R.length with h0 | h0
  · omega
  · obtain ⟨b, hb⟩ : ∃ b, R[R.length - 1]? = some b := ⟨_, List.getElem?_eq_getElem (by omega)⟩
    have h1 := h.idge hb
    have h2 := (h.g b (List.mem_of_getElem? hb)).2.1
    omega
/-- as it lies in memory -/
structure Rm (w : World) (bs rb : Nat) (v : Value) (R : List JB) : Prop where
  c : w.heap[rb]? = some (.cells #[v] 30 (0, 0))
  r : w.ownsRow bs 60 3 v R.length (jbs R)
  p : ∀ b ∈ R, IRow bs w (.slice b.p b.n b.c) b.ps
  ok : Jok R
section
variable {w w1 : World} {bs rb : Nat} {v : Value} {R : List JB}
theorem Rm.lt (h : Rm w bs rb v R) : rb < w.heap.size := (Array.getElem?_eq_some_iff.1 h.c).1
theorem Rm.cell (h : Rm w bs rb v R) : w.cell? ⟨rb, 0, none⟩ = some v := by rw [cell_of h.c]; rfl
theorem Rm.shape (h : Rm w bs rb v R) : ∃ a c, v = .slice a R.length c := by
  rcases h.r.2 with ⟨rfl, h0⟩ | ⟨g, cap, cur, rfl, _⟩
  · exact ⟨none, 0, by rw [h0]⟩
  · exact ⟨_, _, rfl⟩
theorem Rm.row (h : Rm w bs rb v R) (hl : 0 < R.length) : ∃ g c, v = .slice (some ⟨g, 0, none⟩) R.length c := by
  rcases h.r.2 with ⟨rfl, h0⟩ | ⟨g, cap, cur, rfl, _⟩
  · omega
  · exact ⟨g, cap, rfl⟩
theorem Rm.kept (h : Rm w bs rb v R) (k : ∀ (g : Nat) (o : Obj), w.heap[g]? = some o → w1.heap[g]? = some o) : Rm w1 bs rb v R :=
  ⟨k _ _ h.c, ownsKeep h.r fun g e => by
      rcases h.r.2 with ⟨e0, _⟩ | ⟨g', cap, cur, e0, _, hgg, _⟩
      · rw [e0] at e; cases e
      · rw [e0] at e; cases e; exact (k _ _ hgg).trans hgg.symm, fun b hb => (h.p b hb).keep fun g e => by
      rcases (h.p b hb).2 with ⟨e0, _⟩ | ⟨g', cap, cur, e0, _, hgg, _⟩
      · rw [e0] at e; cases e
      · rw [e0] at e; cases e; exact (k _ _ hgg).trans hgg.symm, h.ok⟩
theorem Rm.below (h : Rm w bs rb v R) (k : Below w.heap.size w w1) : Rm w1 bs rb v R := h.kept fun g _ e => (k.block g (Array.getElem?_eq_some_iff.1 e).1).trans e
theorem Rm.cells {g n c i : Nat} {b : JB} (h : Rm w bs rb (.slice (some ⟨g, 0, none⟩) n c) R) (hb : R[i]? = some b) : w.cell? ⟨g, i * 3, none⟩ = some (.int .i64 b.id) ∧ w.cell? ⟨g, i * 3 + 1, none⟩ = some (.slice b.p b.n b.c) ∧ w.cell? ⟨g, i * 3 + 2, none⟩ = some (.int .i64 b.st) := by
  have key : ∀ j, j < 3 → ∀ u, b.cs[j]? = some u → w.cell? ⟨g, i * 3 + j, none⟩ = some u := fun j hj u hu => by
    have := World.ownsRow.cells h.r (g := g) rfl (i * 3 + j) u (by rw [jbs_at hb j hj]; exact hu)
    rwa [Addr.add_lit, Nat.zero_add] at this
  exact ⟨key 0 (by omega) _ rfl, key 1 (by omega) _ rfl, key 2 (by omega) _ rfl⟩
theorem Rm.fz {g n c : Nat} (h : Rm w bs rb (.slice (some ⟨g, 0, none⟩) n c) R) (k : Nat) : w.frozen? ⟨g, k, none⟩ = false := by
  rcases h.r.2 with ⟨e, _⟩ | ⟨g', cap, cur, e, hb, hgg, _⟩
  · cases e
  · cases e
    exact Go.Proofs.Ytodldfgoieikcaa.fz hgg k
theorem Rm.blk {g n c : Nat} (h : Rm w bs rb (.slice (some ⟨g, 0, none⟩) n c) R) : ∃ cur, w.heap[g]? = some (.cells cur 60 (0, 0)) ∧ bs ≤ g := by
  rcases h.r.2 with ⟨e, _⟩ | ⟨g', cap, cur, e, hb, hgg, _⟩
  · cases e
  · cases e
    exact ⟨cur, hgg, hb⟩
end
/-- where a job is found -/
def Fnd (R : List JB) (x : Int) (k : Int) : Prop := (∃ (i : Nat) (b : JB), k = i ∧ R[i]? = some b ∧ (b.id : Int) = x) ∨ (k = -1 ∧ ∀ b ∈ R, (b.id : Int) ≠ x)
theorem fnd_all (R : List JB) (x : Int) : ∃ k, Fnd R x k := by
  by_cases h : ∃ b ∈ R, (b.id : Int) = x
  · obtain ⟨b, h1, h2⟩ := h
    obtain ⟨i, hi⟩ := List.getElem?_of_mem h1
    exact ⟨i, .inl ⟨i, b, rfl, hi, h2⟩⟩
  · exact ⟨-1, .inr ⟨rfl, fun b hb e => h ⟨b, hb, e⟩⟩⟩
set_option maxHeartbeats 1000000 in
set_option maxRecDepth 100000 in
theorem find_any {w : World} {bs rb : Nat} {v : Value} {R : List JB} (h : Rm w bs rb v R) {x k : Int} (hk : Fnd R x k) : Calls Try.prog 27 #[.pointer (some ⟨rb, 0, none⟩), .int .i64 x] w fun e w' => e = .returned (.int .i64 k) ∧ w' = w := by
  have HM : Hid (Rm w bs rb v R) := h
  have HK : Hid (Fnd R x k) := hk
  have c0 := h.cell
  obtain ⟨a, c, ev⟩ := h.shape
  have hl := h.ok.len
  rw [ev] at c0
  clear h hk
  obtain ⟨n, hn⟩ : ∃ n, n = R.length := ⟨_, rfl⟩
  rw [← hn] at c0 hl
  have HN : Hid (n = R.length ∧ v = .slice a n c) := ⟨hn, by rw [hn]; exact ev⟩
  clear hn ev
  go_enter Try.func27, Try.ntmps27
  go_wp2_with fail
  go_loopw [5] (fun t wr => ∃ i : Nat, t = .int .i64 i ∧ i ≤ n ∧ wr = w ∧ Hid (∀ (j : Nat) (b : JB), j < i → R[j]? = some b → (b.id : Int) ≠ x)) (fun t _ => n - (intOf t).toNat)
  case atStart => exact ⟨0, rfl, Nat.zero_le _, rfl, fun j _ hj => absurd hj (by omega)⟩
  case round =>
    obtain ⟨i, rfl, hin, rfl, HI⟩ := hrel
    by_cases hi : i < n
    · have hi' : (i : Int) < (n : Int) := by omega
      obtain ⟨b, hb⟩ : ∃ b, R[i]? = some b := ⟨_, List.getElem?_eq_getElem (by have := HN.out.1; omega)⟩
      obtain ⟨g, c', e0⟩ := HM.out.row (by have := HN.out.1; omega)
      have e1 := HN.out.2
      rw [e0] at e1
      injection e1 with e1 e2 e3
      subst e1 e3
      have hM := HM.out
      rw [e0] at hM
      obtain ⟨s0, -, -⟩ := hM.cells hb
      clear e0 e2 hM
      by_cases hxy : (b.id : Int) = x
      · have hbb : ((b.id : Int) == x) = true := by simpa using hxy
        have HR : Hid (k = (i : Int)) := by
          rcases HK.out with ⟨j, b', h1, h2, h3⟩ | ⟨_, h2⟩
          · have := HM.out.ok.inj h2 hb (by omega)
            show k = (i : Int)
            omega
          · exact absurd hxy (h2 b (List.mem_of_getElem? hb))
        clear hxy hb
        go_wp2_with fail
        go_ret
        exact ⟨by rw [HR.out]; rfl, rfl⟩
      · have hbb : ((b.id : Int) == x) = false := by simpa using hxy
        have HX : Hid (∀ (j : Nat) (b : JB), j < i + 1 → R[j]? = some b → (b.id : Int) ≠ x) := fun j z hj hz => by
          by_cases e : j = i
          · subst e; rw [hb] at hz; cases hz; exact hxy
          · exact HI.out j z (by omega) hz
        clear hxy hb
        go_wp2_with fail
        refine ⟨⟨i + 1, by simp, by omega, by first | rfl | trivial, HX.out⟩, ?_⟩
        simp [intOf]
        omega
    · have hi' : ¬ (i : Int) < (n : Int) := by omega
      have HR : Hid (k = -1) := by
        rcases HK.out with ⟨j, b', h1, h2, h3⟩ | ⟨h1, _⟩
        · exact absurd h3 (HI.out j b' (by have := (List.getElem?_eq_some_iff.1 h2).1; have := HN.out.1; omega) h2)
        · exact h1
      go_wp2_with fail
      go_ret
      exact ⟨by rw [HR.out]; rfl, rfl⟩
/-- the reference's jobs are the graph's -/
structure Rel (g : GS) (R : List JB) : Prop where
  a : ∀ b ∈ R, g.st b.id = b.st ∧ b.ps = lsI (g.ps b.id)
  z : ∀ n, n < 101 → (∀ b ∈ R, b.id ≠ n) → g.st n = 0 ∧ ∀ j, j < 101 → g.ps n j = false
  o : ∀ n j, n < 101 → j < 101 → g.ps n j = true → 1 ≤ j
end Go.Proofs.Ytodldfgoieikcaa
