/-
  The program's disk and log, and the reference's log, apart.
-/
import Derived.Test.YtplcpjngpkghmaaKc
namespace Go.Proofs.Ytplcpjngpkghmaa
open Go.RowKit Go.Maps

structure Bo (w0 w : World) (pb lb rb : Nat) (D : DK) (pt : Option Addr) (first : Nat) (l : List RC) (tg lt : Nat → Tg) (R : RL) (v : Value) : Prop where
  j : LJ NoP w0 w pb lb D pt first l tg lt
  r : RfAt w w0.heap.size rb R v
  ap : ∀ g, RB rb v R g → tg g = .no ∧ lt g = .no
def PR (w : World) (rb : Nat) (v : Value) (R : RL) : Nat → Obj → Prop := fun g o => RB rb v R g ∧ w.heap[g]? = some o
variable {w0 w w' : World} {pb lb rb first first' : Nat} {D D' : DK} {pt pt' : Option Addr} {l l' : List RC} {tg lt tg' lt' : Nat → Tg} {R R' : RL} {v v' : Value}
theorem Bo.prog (h : Bo w0 w pb lb rb D pt first l tg lt R v) : LJ (PR w rb v R) w0 w pb lb D pt first l tg lt :=
  ⟨h.j.d, h.j.g, h.j.ap, h.j.t1, h.j.t2, h.j.b, fun g _ hp => ⟨hp.2, h.ap g hp.1⟩⟩
theorem Bo.back (h : Bo w0 w pb lb rb D pt first l tg lt R v) (j : LJ (PR w rb v R) w0 w' pb lb D' pt' first' l' tg' lt') : Bo w0 w' pb lb rb D' pt' first' l' tg' lt' R v := by
  have e : ∀ g, RB rb v R g → ∃ o, w.heap[g]? = some o ∧ (w'.heap[g]? = some o ∧ tg' g = .no ∧ lt' g = .no) := fun g hg => ⟨w.heap[g]'(h.r.lt hg).2, Array.getElem?_eq_getElem _, j.pr g _ ⟨hg, Array.getElem?_eq_getElem _⟩⟩
  refine ⟨⟨j.d, j.g, j.ap, j.t1, j.t2, j.b, nofun⟩, h.r.keepAt fun g hg => ?_, fun g hg => ?_⟩
  · obtain ⟨o, h1, h2, _⟩ := e g hg
    rw [h1, h2]
  · obtain ⟨o, _, _, h3⟩ := e g hg
    exact h3
theorem Bo.ref (h : Bo w0 w pb lb rb D pt first l tg lt R v) (r : RfAt w' w0.heap.size rb R' v') (k : Kp (· = rb) w w') (hb : ∀ g, RB rb v' R' g → RB rb v R g ∨ w.heap.size ≤ g) : Bo w0 w' pb lb rb D pt first l tg lt R' v' := by
  obtain ⟨u, hg⟩ := h.j.g
  have hrb := h.ap rb (.inl rfl)
  refine ⟨⟨h.j.d.keep (fun i hi => k.block i (h.j.d.lt hi) fun e => hi ?_) k.size, ⟨u, hg.keep (fun i hi => k.block i (hg.lt_ i hi) fun e => hi ?_) k.size⟩, h.j.ap, h.j.t1, h.j.t2, h.j.b.trans (k.below h.j.b.size fun i hi e => ?_), nofun⟩, r, fun g hgr => ?_⟩
  · have e' : i = rb := e
    rw [e']; exact hrb.1
  · have e' : i = rb := e
    rw [e']; exact hrb.2
  · have e' : i = rb := e
    have := h.r.lo
    omega
  · rcases hb g hgr with h1 | h1
    · exact h.ap g h1
    · exact ⟨no_of fun e => by have := h.j.d.lt e; omega, no_of fun e => by have := hg.lt_ g e; omega⟩
theorem Bo.keep (h : Bo w0 w pb lb rb D pt first l tg lt R v) (b : Below w.heap.size w w') : Bo w0 w' pb lb rb D pt first l tg lt R v := ⟨h.j.keep b, h.r.keepAt fun g hg => b.block g (h.r.lt hg).2, h.ap⟩
/-- other numbers in the reference's log -/
theorem Bo.set (h : Bo w0 w pb lb rb D pt first l tg lt R v) (k : Kp (· = rb) w w') (hc : w'.heap[rb]? = some (.cells #[v, .int .i64 R'.first, .int .i64 R'.next, .int .i64 R'.syn, .bool R'.mb, .int .i64 R'.tr, .bool R'.ov] 40 (0, 0))) (ha : R'.all = R.all) (h1 : R'.next ≤ R'.all.length) (h2 : R'.first ≤ R'.next) (h3 : R'.syn ≤ R'.next) : Bo w0 w' pb lb rb D pt first l tg lt R' v :=
  h.ref (h.r.set k hc ha h1 h2 h3) k fun g hg => by
    rcases hg with h1 | h1 | ⟨r, hr, h1⟩
    · exact .inl (.inl h1)
    · exact .inl (.inr (.inl h1))
    · exact .inl (.inr (.inr ⟨r, by rw [← ha]; exact hr, h1⟩))
end Go.Proofs.Ytplcpjngpkghmaa
