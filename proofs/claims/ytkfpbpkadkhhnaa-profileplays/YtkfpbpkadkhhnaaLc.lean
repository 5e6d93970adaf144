/-
  Scripts; ProfileHolds' law.
-/
import Derived.Test.YtkfpbpkadkhhnaaLb
import Derived.Deep.CutBlock
import Derived.Deep.CutRange
import Derived.Deep.DeepCutAuto
import Derived.Lib.QuietBelow
namespace Go.Proofs.Ytkfpbpkadkhhnaa
open Go.RowKit Go.Maps Go.Sort

/-- an operation of the script -/
structure Opr where
  kd : Int
  a : Int
  b : Int
  v : V
def Opr.cs (o : Opr) : List Value := [.int .i64 o.kd, .int .i64 o.a, .int .i64 o.b, .int .i64 o.v.a, .int .i64 o.v.b, .int .i64 o.v.c, .int .i64 o.v.d]
/-- an operation's cells -/
def OpC (w : World) (g f : Nat) (o : Opr) : Prop := w.cell? ⟨g, f, none⟩ = some (.int .i64 o.kd) ∧ w.cell? ⟨g, f + 1, none⟩ = some (.int .i64 o.a) ∧ w.cell? ⟨g, f + 2, none⟩ = some (.int .i64 o.b) ∧ w.cell? ⟨g, f + 3, none⟩ = some (.int .i64 o.v.a) ∧ w.cell? ⟨g, f + 3 + 1, none⟩ = some (.int .i64 o.v.b) ∧ w.cell? ⟨g, f + 3 + 2, none⟩ = some (.int .i64 o.v.c) ∧ w.cell? ⟨g, f + 3 + 3, none⟩ = some (.int .i64 o.v.d)
theorem OpC.below {w w1 : World} {g f : Nat} {o : Opr} (h : OpC w g f o) (b : Below w.heap.size w w1) : OpC w1 g f o := by
  obtain ⟨h0, h1, h2, h3, h4, h5, h6⟩ := h
  exact ⟨cell_below h0 b, cell_below h1 b, cell_below h2 b, cell_below h3 b, cell_below h4 b, cell_below h5 b, cell_below h6 b⟩
def Scr (w : World) (q : Option Addr) (L : List Opr) : Prop := ∀ i o, L[i]? = some o → ∃ g f, q = some ⟨g, f, none⟩ ∧ OpC w g (f + i * 7) o
theorem grown {W : World} {f : FuncId} {args : Array Value} {v : Value} (H : Hid (∀ w, Below W.heap.size W w → Calls Try.prog f args w fun e w' => e = .returned v ∧ Below w.heap.size w w')) :
    Hid (∀ d os, Calls Try.prog f args (grow (redrawn W d) os) fun e w'' => e = .returned v ∧ ∃ p : Regrown, w'' = grow (redrawn W p.d) p.os) := fun d os => Calls.regrown_of (H.out _ (below_regrown W d os))
theorem rformed_V (v : V) (w : World) : Calls Try.prog 10 #[.agg #[.int .i64 v.a, .int .i64 v.b, .int .i64 v.c, .int .i64 v.d]] w fun e w' => e = .returned (.bool v.ok) ∧ Below w.heap.size w w' := rformed_any v.a v.b v.c v.d w
theorem rfits_V (v u : V) (w : World) : Calls Try.prog 16 #[.agg #[.int .i64 v.a, .int .i64 v.b, .int .i64 v.c, .int .i64 v.d], .agg #[.int .i64 u.a, .int .i64 u.b, .int .i64 u.c, .int .i64 u.d]] w fun r w' => r = .returned (.bool (decide (v.le u))) ∧ Below w.heap.size w w' := by
  have := rfits_any v.a v.b v.c v.d u.a u.b u.c u.d w
  rwa [ft_le] at this
abbrev vB (v : V) : Obj := .cells #[.int .i64 v.a, .int .i64 v.b, .int .i64 v.c, .int .i64 v.d] 23 (0, 0)
/-- in the second loop -/
structure H2 (w wr : World) (pb bx wb : Nat) (S : PS) (v : Value) (i : Nat) : Prop where
  l : Lw w wr pb (adX NX bx (vB S.C)) S
  r : Row wr v S.l
  b : Bx wr wb (pv S.C S.l i)
  hi : i ≤ S.l.length
  nf : ¬ Fp pb S wb
  nv : v.ownBlock ≠ some wb
  nx : wb ≠ bx
  nw : w.heap.size ≤ wb
theorem H2.below {w wr w1 : World} {pb bx wb : Nat} {S : PS} {v : Value} {i : Nat} (h : H2 w wr pb bx wb S v i) (b : Below wr.heap.size wr w1) : H2 w w1 pb bx wb S v i :=
  ⟨h.l.below b, h.r.below b, at_below b (Nat.le_refl _) h.b, h.hi, h.nf, h.nv, h.nx, h.nw⟩
theorem H2.set {w wr : World} {pb bx wb : Nat} {S : PS} {v : Value} {i : Nat} (h : H2 w wr pb bx wb S v i) {s : St} (hs : S.l[i]? = some s) :
    H2 w ((((wr.setCell ⟨wb, 0, none⟩ (.int .i64 s.fr.a)).setCell ⟨wb, 1, none⟩ (.int .i64 s.fr.b)).setCell ⟨wb, 2, none⟩ (.int .i64 s.fr.c)).setCell ⟨wb, 3, none⟩ (.int .i64 s.fr.d)) pb bx wb S v (i + 1) := by
  have hk := Row.set4_kp wr wb 0 1 2 3 (.int .i64 s.fr.a) (.int .i64 s.fr.b) (.int .i64 s.fr.c) (.int .i64 s.fr.d)
  have hlt := (List.getElem?_eq_some_iff.1 hs).1
  refine ⟨⟨h.l.m.keep fun k q => hk.block k (h.l.m.lt k q) (fun e => h.nf (e ▸ q)), h.l.o, below_set4 h.l.b h.nw _ _ _ _, h.l.f, fun j o q => ?_⟩, h.r.keep fun g q => hk.block g (h.r.lt q) (fun e => h.nv (e ▸ q)), ?_, hlt, h.nf, h.nv, h.nx, h.nw⟩
  · obtain ⟨h1, h2⟩ := h.l.x j o q
    refine ⟨(hk.block j (Array.getElem?_eq_some_iff.1 h1).1 fun e => ?_).trans h1, h2⟩
    subst e
    unfold adX at q
    rw [if_neg h.nx] at q
    cases q
  · unfold Bx
    rw [pv_succ hs]
    exact at_set4 h.b
theorem Pf.first {C : V} {L : List St} (h : Pf C L) : fa C L (-1) = C := by
  have hk : IsK L (-1) 0 := ⟨Nat.zero_le _, fun i s _ q => by omega, fun i s hs _ => by have := (h.bd s (List.mem_of_getElem? hs)).1; omega⟩
  rw [fa_k hk, pv_zero]
theorem Pf.last {C : V} {L : List St} (h : Pf C L) : fa C L 1099511627776 = C := by rw [fa_k h.end, h.fin]
end Go.Proofs.Ytkfpbpkadkhhnaa
