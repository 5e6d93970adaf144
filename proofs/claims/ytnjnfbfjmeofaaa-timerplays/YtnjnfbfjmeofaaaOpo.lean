/-
  A script that came in.
-/
import Derived.Test.YtnjnfbfjmeofaaaOpk
import Derived.Test.YtnjnfbfjmeofaaaSc
import Derived.Deep.Strs
namespace Go.Proofs.Ytnjnfbfjmeofaaa
open Go.ChangeShapes Go.WideShapes Go.ChangeAt Go.RowKit

theorem cellsOf3 : Try.prog.cellsOf 3 = 1 := by kernel_rfl
theorem cellsOf32 : Try.prog.cellsOf 32 = 3 := by kernel_rfl
theorem len3 {l : List Value} (h : l.length = 3) : ∃ c0 c1 c2, l = [c0, c1, c2] := by
  match l, h with
  | [c0, c1, c2], _ => exact ⟨c0, c1, c2, rfl⟩
theorem ops_at : ∀ {L : List Opr} {i : Nat} {o : Opr}, L[i]? = some o → (L.flatMap Opr.cs)[i * 3]? = some (.int .i64 o.kd) ∧ (L.flatMap Opr.cs)[i * 3 + 1]? = some (.string o.nm) ∧ (L.flatMap Opr.cs)[i * 3 + 2]? = some (.int .i64 o.x)
  | [], i, o, h => by simp at h
  | a :: r, 0, o, h => by
    have e : a = o := by simpa using h
    subst e
    exact ⟨rfl, rfl, rfl⟩
  | a :: r, i + 1, o, h => by
    have ih := ops_at (L := r) (i := i) (o := o) (by simpa using h)
    have e : (i + 1) * 3 = i * 3 + 3 := by omega
    have e' : ∀ j, ((a :: r).flatMap Opr.cs)[j + 3]? = (r.flatMap Opr.cs)[j]? := fun j => by
      rw [List.flatMap_cons]
      exact List.getElem?_append_right (l₁ := a.cs) (i := j + 3) (by show 3 ≤ j + 3; omega)
    rw [e, show i * 3 + 3 + 1 = i * 3 + 1 + 3 by omega, show i * 3 + 3 + 2 = i * 3 + 2 + 3 by omega, e', e', e']
    exact ih
section
variable {H : Type} {enc : TypeId × Value → H} {W : World} {base : Nat} {spare : Nat → Bool} {held : Bool}
/-- the operation's name is of a size in reach, where the whole is -/
def opQ (o : Opr) (d : DataW H) : Prop := Wt 32 d → o.nm.size ≤ 281474976710656
theorem elem32 {fuel : Nat} {cs : List Value} {x : DataW H × List MemPlace} (h : DataW.trod enc Try.prog W base spare held fuel 32 cs = some x) : ∃ o : Opr, cs = o.cs ∧ opQ o x.1 := by
  obtain ⟨y0, y1, y2, n, rfl, hl, h0, h1, h2⟩ := Go.Deep.trod_struct3 Try.underlying32 h
  rw [cellsOf32] at hl
  obtain ⟨c0, c1, c2, rfl⟩ := len3 hl
  simp only [List.drop_zero, List.drop_succ_cons, cellsOf3, cellsOf2, cellsOf9, List.take_succ_cons, List.take_zero] at h0 h1 h2
  obtain ⟨n0, e0, _, w0⟩ := DataW.trod_int Try.underlying3 h0
  obtain ⟨m, e1, e1', _⟩ := DataW.trod_string Try.underlying9 h1
  obtain ⟨n2, e2, _, w2⟩ := DataW.trod_int Try.underlying2 h2
  simp only [List.cons.injEq, and_true] at e0 e1 e2
  refine ⟨⟨n0, m, n2⟩, by rw [e0, e1, e2]; rfl, fun hw => ?_⟩
  have h9 : Wt (H := H) 9 y1.1 := hw.field (j := 1) Try.underlying32 rfl rfl
  rw [e1'] at h9
  have := h9.text
  show m.size ≤ _
  omega
theorem open_script {v : Value} {x : DataW H} {p : List MemPlace} {r : Reach} {b0 : Nat} (hv : Value.okWide Try.prog W r b0 22 v) (h : DataW.Trod enc Try.prog W base spare held 22 v x p) :
    ∃ (q : Option Addr) (c : Nat) (L : List Opr), v = .slice q L.length c ∧ Scr W q L ∧ (Wt 22 x → ∀ o ∈ L, o.nm.size ≤ 281474976710656) ∧ L.length ≤ maxLen := by
  obtain ⟨a0, len, cap, rfl⟩ := okWide_slice Try.underlying22 hv
  obtain ⟨fuel, hf⟩ := h
  obtain ⟨q, c, L, h1, h2, h3, h4, h5⟩ := open_list Try.underlying22 Opr.cs (fun _ => rfl) cellsOf32 (by decide) opQ (fun n cs x h => elem32 h) (show DataW.trod enc Try.prog W base spare held fuel 22 [.slice a0 len cap] = some (x, p) from hf)
  refine ⟨q, c, L, h1, fun i o ho => ?_, fun hw o ho => ?_, h5⟩
  · obtain ⟨k0, k1, k2⟩ := ops_at ho
    rcases h2 with e | ⟨g, f, rfl, hr⟩
    · rw [e] at k0; simp at k0
    · exact ⟨g, f, rfl, hr _ _ k0, hr _ _ k1, hr _ _ k2⟩
  · obtain ⟨d, hq, hb⟩ := h4 o ho
    exact hq (hb hw)
end
end Go.Proofs.Ytnjnfbfjmeofaaa
