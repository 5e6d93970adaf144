/-
  The reference's profile; Free.
-/
import Derived.Test.YtkfpbpkadkhhnaaLf
import Derived.Test.YtkfpbpkadkhhnaaNa
namespace Go.Proofs.Ytkfpbpkadkhhnaa
open Go.RowKit Go.Maps

def tkv (o : Opr) : List Value := [.int .i64 o.a, .int .i64 o.b, .int .i64 o.v.a, .int .i64 o.v.b, .int .i64 o.v.c, .int .i64 o.v.d]
def flatT (l : List Opr) : List Value := l.flatMap tkv
theorem flatT_cons (o : Opr) (l : List Opr) : flatT (o :: l) = tkv o ++ flatT l := rfl
theorem flatT_length : ∀ l : List Opr, (flatT l).length = l.length * 6
  | [] => rfl
  | o :: l => by rw [flatT_cons, List.length_append, flatT_length l, List.length_cons]; show 6 + _ = _; omega
theorem flatT_at : ∀ {l : List Opr} {i : Nat} {o : Opr}, l[i]? = some o → ∀ j, j < 6 → (flatT l)[i * 6 + j]? = (tkv o)[j]?
  | [], i, o, h, j, hj => by simp at h
  | a :: r, 0, o, h, j, hj => by
    have e : a = o := by simpa using h
    subst e
    rw [flatT_cons, Nat.zero_mul, Nat.zero_add, List.getElem?_append_left (by simpa [tkv] using hj)]
  | a :: r, i + 1, o, h, j, hj => by
    have ih := flatT_at (l := r) (i := i) (o := o) (by simpa using h) j hj
    rw [flatT_cons, List.getElem?_append_right (by simp [tkv]; omega), show (i + 1) * 6 + j - (tkv a).length = i * 6 + j by simp [tkv]; omega]
    exact ih
theorem flatT_one {l : List Opr} : ∀ v ∈ flatT l, v.oneCell' = true := fun v hv => by
  obtain ⟨s, _, h⟩ := List.mem_flatMap.1 hv
  simp [tkv] at h
  rcases h with rfl | rfl | rfl | rfl | rfl | rfl <;> rfl
/-- a row of takes -/
def TRow (w : World) (v : Value) (l : List Opr) : Prop := w.ownsRow 0 70 6 v l.length (flatT l)
section
variable {w w1 : World} {v : Value} {l : List Opr} {g n c i : Nat}
theorem TRow.shape (h : TRow w v l) : ∃ a c, v = .slice a l.length c := by
  rcases h.2 with ⟨rfl, h0⟩ | ⟨g, cap, cur, rfl, _⟩
  · exact ⟨none, 0, by rw [h0]⟩
  · exact ⟨_, _, rfl⟩
theorem TRow.lt (h : TRow w v l) {g : Nat} (e : v.ownBlock = some g) : g < w.heap.size := (World.ownsRow.lt h g e).2
theorem TRow.keep (h : TRow w v l) (b : ∀ g, v.ownBlock = some g → w1.heap[g]? = w.heap[g]?) : TRow w1 v l := ownsKeep h b
theorem TRow.below (h : TRow w v l) (b : Below w.heap.size w w1) : TRow w1 v l := h.keep fun g e => b.block g (h.lt e)
theorem TRow.row (h : TRow w v l) (hl : 0 < l.length) : ∃ g c, v = .slice (some ⟨g, 0, none⟩) l.length c := by
  rcases h.2 with ⟨rfl, h0⟩ | ⟨g, cap, cur, rfl, _⟩
  · omega
  · exact ⟨g, cap, rfl⟩
theorem TRow.blk (h : TRow w (.slice (some ⟨g, 0, none⟩) n c) l) : ∃ cs, w.heap[g]? = some (.cells cs 70 (0, 0)) := by
  rcases h.2 with ⟨e, _⟩ | ⟨g', cap, cur, e, hb, hgg, _⟩
  · cases e
  · cases e
    exact ⟨cur, hgg⟩
/-- a take's cells -/
def TC (w : World) (g i : Nat) (o : Opr) : Prop := w.cell? ⟨g, i * 6, none⟩ = some (.int .i64 o.a) ∧ w.cell? ⟨g, i * 6 + 1, none⟩ = some (.int .i64 o.b) ∧ w.cell? ⟨g, i * 6 + 2, none⟩ = some (.int .i64 o.v.a) ∧ w.cell? ⟨g, i * 6 + 2 + 1, none⟩ = some (.int .i64 o.v.b) ∧ w.cell? ⟨g, i * 6 + 2 + 2, none⟩ = some (.int .i64 o.v.c) ∧ w.cell? ⟨g, i * 6 + 2 + 3, none⟩ = some (.int .i64 o.v.d)
theorem TRow.cells (h : TRow w (.slice (some ⟨g, 0, none⟩) n c) l) {o : Opr} (ho : l[i]? = some o) : TC w g i o := by
  have key : ∀ j, j < 6 → ∀ u, (tkv o)[j]? = some u → w.cell? ⟨g, i * 6 + j, none⟩ = some u := fun j hj u hu => by
    have := World.ownsRow.cells h (g := g) rfl (i * 6 + j) u (by rw [flatT_at ho j hj]; exact hu)
    rwa [Addr.add_lit, Nat.zero_add] at this
  exact ⟨key 0 (by omega) _ rfl, key 1 (by omega) _ rfl, key 2 (by omega) _ rfl, key 3 (by omega) _ rfl, key 4 (by omega) _ rfl, key 5 (by omega) _ rfl⟩
end
/-- the reference's profile in memory -/
structure RP (w : World) (rb : Nat) (C : V) (tv : Value) (T : List Opr) : Prop where
  hp : w.heap[rb]? = some (.cells #[.int .i64 C.a, .int .i64 C.b, .int .i64 C.c, .int .i64 C.d, tv] 34 (0, 0))
  rw : TRow w tv T
def Rp (rb : Nat) (tv : Value) (k : Nat) : Prop := k = rb ∨ tv.ownBlock = some k
theorem RP.lt {w : World} {rb : Nat} {C : V} {tv : Value} {T : List Opr} (h : RP w rb C tv T) (k : Nat) (hk : Rp rb tv k) : k < w.heap.size := by
  rcases hk with rfl | hk
  · exact (Array.getElem?_eq_some_iff.1 h.hp).1
  · exact h.rw.lt hk
theorem RP.keep {w w1 : World} {rb : Nat} {C : V} {tv : Value} {T : List Opr} (h : RP w rb C tv T) (b : ∀ k, Rp rb tv k → w1.heap[k]? = w.heap[k]?) : RP w1 rb C tv T := ⟨(b rb (.inl rfl)).trans h.hp, h.rw.keep fun g hg => b g (.inr hg)⟩
theorem RP.below {w w1 : World} {rb : Nat} {C : V} {tv : Value} {T : List Opr} (h : RP w rb C tv T) (b : Below w.heap.size w w1) : RP w1 rb C tv T := h.keep fun k hk => b.block k (h.lt k hk)
theorem RP.cells {w : World} {rb : Nat} {C : V} {tv : Value} {T : List Opr} (h : RP w rb C tv T) : w.cell? ⟨rb, 0, none⟩ = some (.int .i64 C.a) ∧ w.cell? ⟨rb, 1, none⟩ = some (.int .i64 C.b) ∧ w.cell? ⟨rb, 2, none⟩ = some (.int .i64 C.c) ∧ w.cell? ⟨rb, 3, none⟩ = some (.int .i64 C.d) ∧ w.cell? ⟨rb, 4, none⟩ = some tv := by
  refine ⟨?_, ?_, ?_, ?_, ?_⟩ <;> (rw [cell_of h.hp]; rfl)
/-- the takes are right -/
structure RO (C : V) (T : List Opr) : Prop where
  c : C.ok = true
  a : AllT (fun _ => C) T
  n : T.length ≤ 4096
/-- what is free at a tick behind the first takes -/
def fT (C : V) (T : List Opr) (u : Int) : V := plF (fun _ => C) T u
theorem AllT.take {f : Int → V} {L : List Opr} (h : AllT f L) (k : Nat) : AllT f (L.take k) := by
  rw [← List.take_append_drop k L] at h
  exact (AllT.append.1 h).1
theorem RO.ok {C : V} {T : List Opr} (h : RO C T) (k : Nat) (u : Int) : (fT C (T.take k) u).ok = true ∧ (fT C (T.take k) u).le C := by
  have h1 := (h.a.take k).pos (fun _ => by have := V.ok_iff.1 h.c; unfold V.le V.nil; simp only; omega) u
  have h2 := sumT_nonneg (L := T.take k) (fun o ho => ((h.a.take k).ok o ho).1) u
  have h3 := plF_sum (T.take k) (fun _ => C) u
  have h4 := V.ok_iff.1 h.c
  unfold fT
  rw [h3] at h1 ⊢
  rw [V.ok_iff]
  unfold V.le V.sub V.nil at *
  simp only at *
  omega
theorem fT_succ {C : V} {T : List Opr} {k : Nat} {o : Opr} (ho : T[k]? = some o) (u : Int) : fT C (T.take (k + 1)) u = if o.a ≤ u ∧ u < o.b then (fT C (T.take k) u).sub o.v else fT C (T.take k) u := by
  unfold fT
  rw [List.take_add_one, ho]
  show plF _ (T.take k ++ [o]) u = _
  rw [plF_snoc]
  rfl
end Go.Proofs.Ytkfpbpkadkhhnaa
