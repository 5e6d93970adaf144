/-
  The reference's Earliest.
-/
import Derived.Test.YtkfpbpkadkhhnaaQh
import Derived.Test.YtkfpbpkadkhhnaaQi
import Derived.Lib.QuietBelow
namespace Go.Proofs.Ytkfpbpkadkhhnaa
open Go.RowKit Go.Maps Go.Sort

/-- while the reference's Earliest looks: candidates, ends, the vector's box -/
structure E2 (w wr : World) (lv : Value) (l : List Int) (ev : Value) (E : List Int) (v : V) : Prop where
  bl : RowKit.Below w.heap.size w wr
  l : IRow w.heap.size wr lv l
  e : IRow w.heap.size wr ev E
  b : Bx wr w.heap.size v
  ne : ∀ g, lv.ownBlock = some g → ev.ownBlock ≠ some g
theorem E2.below {w wr w1 : World} {lv : Value} {l : List Int} {ev : Value} {E : List Int} {v : V} (h : E2 w wr lv l ev E v) (b : RowKit.Below wr.heap.size wr w1) : E2 w w1 lv l ev E v :=
  ⟨h.bl.trans (b.mono h.bl.size), h.l.below b, h.e.below b, at_below b (Nat.le_refl _) h.b, h.ne⟩
theorem append_cnd {ops : Array Oper} {rest : List Oper} {o : Oper} {a : Act} {Q : Exit → Act → World → Prop} {w wr : World} (hgd : o.guard = none) (s x : Operand) (ho : o.op = .call { callee := .builtin .append, args := #[s, x], argTypes := #[61, 61] }) (p : Option Addr) (m c : Nat) (l : List Int) (ev : Value) (E : List Int) (v : V) (y : Int) (hs : a.eval s = .slice p m c) (hm : m = l.length) (hr : E2 w wr (.slice p m c) l ev E v)
    (g cc : Nat) (hx : a.eval x = .slice (some ⟨g, 0, none⟩) 1 cc) (hg : wr.cell? ⟨g, 0, none⟩ = some (.int .i64 y)) (h9 : m ≤ 100000)
    (h : ∀ g3 c3 w3, Hid (E2 w w3 (.slice (some ⟨g3, 0, none⟩) (m + 1) c3) (l ++ [y]) ev E v) → wpList Try.prog ops Q rest (a.put o.dst (.slice (some ⟨g3, 0, none⟩) (m + 1) c3)) w3) :
    wpList Try.prog ops Q (o :: rest) a wr := by
  obtain ⟨i0, hi, hz0, hz1, hz2⟩ := info_parts info2
  refine wpList_append_own_at _ hgd s x 61 ho w.heap.size 2 i0 _ 1 8 Try.underlying61 hi hz0 hz1 hz2 rfl (by decide) (.slice p m c) m (ints l) hs (by have := hr.l; unfold IRow at this; rw [← hm] at this; exact this) ⟨g, 0, none⟩ 1 cc (ints [y]) hx rfl (fun k u hu => ?_) ints_one (by unfold maxLen; omega) (by omega) hr.bl.size (fun v' w3 ho3 hg3 _ h5 => ?_)
  · cases k with
    | zero => simp [ints] at hu; rw [← hu]; simpa [Addr.add_lit] using hg
    | succ k => simp [ints] at hu
  · have R3 : IRow w.heap.size w3 v' (l ++ [y]) := by
      unfold IRow
      rw [List.length_append, ← hm]
      have e9 : ints (l ++ [y]) = ints l ++ ints [y] := by simp [ints]
      rw [e9]
      exact ho3
    obtain ⟨g3, c3, e3⟩ := R3.row (by simp)
    rw [show (l ++ [y]).length = m + 1 by rw [List.length_append, ← hm]; rfl] at e3
    subst e3
    refine h g3 c3 w3 ⟨below_grown (B := w.heap.size) hr.bl hg3 (fun g e => hr.l.ge e) rfl, R3, hr.e.keep fun j e => hg3.block j (hr.e.lt e) fun e' => hr.ne j e'.symm e, ?_, fun j e => ?_⟩
    · refine (hg3.block _ (Array.getElem?_eq_some_iff.1 hr.b).1 fun e => ?_).trans hr.b
      obtain ⟨cs, hcs⟩ := hr.l.ty e.symm
      rw [hr.b] at hcs
      injection hcs with hcs
      injection hcs with _ hcs
      exact absurd hcs (by decide)
    · rcases h5 with q | q
      · exact hr.ne j (q ▸ e)
      · intro e'
        have := hr.e.lt e'
        rw [q] at e
        cases e
        omega
end Go.Proofs.Ytkfpbpkadkhhnaa
