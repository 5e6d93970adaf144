/-
  The document's plain, of a job.
-/
import Derived.Test.YtnkkiepoljbhlaaDr
import Derived.Test.YtnkkiepoljbhlaaDt
import Derived.Deep.MidRow
namespace Go.Proofs.Ytnkkiepoljbhlaa
open Go.RowKit

theorem size30q (j : JB) : (Try.prog.info? 30).map (·.size) = some j.cells.size := by
  have : (Try.prog.info? 30).map (·.size) = some 11 := by kernel_rfl
  exact this
theorem JB.cells_one (j : JB) : j.cells.all (·.oneCell') = true := by simp [JB.cells, SL.v, Value.oneCell']
section
variable {w w' W : World} {rb k k' a : Nat} {l : List UInt8} {bad bd bd' : Bool} {p : PL}
theorem RQ.jb (h : RQ w W rb l k bd p) (j : JB) : RQ w (W.setCells (w.heap.size + 1) 13 j.cells.toList) rb l k bd { p with jb := j } := by
  have h0 := h.set (i := 13) (p' := { p with jb := { p.jb with id := j.id } }) (.int .i64 j.id) rfl
  have h1 := h0.set (i := 14) (p' := { p with jb := { p.jb with id := j.id, tn := j.tn } }) (.string j.tn) rfl
  have h2 := h1.set (i := 15) (p' := { p with jb := { p.jb with id := j.id, tn := j.tn, pr := j.pr } }) (.int .i64 j.pr) rfl
  have h3 := h2.set (i := 16) (p' := { p with jb := { p.jb with id := j.id, tn := j.tn, pr := j.pr, rt := j.rt } }) (.int .i64 j.rt) rfl
  have h4 := h3.set (i := 17) (p' := { p with jb := { p.jb with id := j.id, tn := j.tn, pr := j.pr, rt := j.rt, pa := j.pa } }) j.pa.v rfl
  have h5 := h4.set (i := 18) (p' := { p with jb := { p.jb with id := j.id, tn := j.tn, pr := j.pr, rt := j.rt, pa := j.pa, tk := j.tk } }) j.tk.v rfl
  have h6 := h5.set (i := 19) (p' := { p with jb := { p.jb with id := j.id, tn := j.tn, pr := j.pr, rt := j.rt, pa := j.pa, tk := j.tk, st := j.st } }) (.int .i64 j.st) rfl
  have h7 := h6.set (i := 20) (p' := { p with jb := { p.jb with id := j.id, tn := j.tn, pr := j.pr, rt := j.rt, pa := j.pa, tk := j.tk, st := j.st, at' := j.at' } }) (.int .i64 j.at') rfl
  have h8 := h7.set (i := 21) (p' := { p with jb := { p.jb with id := j.id, tn := j.tn, pr := j.pr, rt := j.rt, pa := j.pa, tk := j.tk, st := j.st, at' := j.at', nd := j.nd } }) j.nd.v rfl
  have h9 := h8.set (i := 22) (p' := { p with jb := { p.jb with id := j.id, tn := j.tn, pr := j.pr, rt := j.rt, pa := j.pa, tk := j.tk, st := j.st, at' := j.at', nd := j.nd, sr := j.sr } }) (.int .i64 j.sr) rfl
  have h10 := h9.set (i := 23) (p' := { p with jb := j }) j.dn.v rfl
  exact h10
theorem RQ.thr (h : RQ w W rb l k bd p) (o n : Nat) (ho : o + n ≤ 27) : W.there (w.heap.size + 1) o n := fun j hj => by
  refine ⟨?_, froz_row h.b1⟩
  rw [Lib.cell_of_heap h.b1 (o + j)]
  have : o + j < p.cells.size := by rw [PL.cells_size]; omega
  rw [Array.getElem?_eq_getElem this]
  rfl
theorem RQ.thj (h : RQ w W rb l k bd p) (q : JB) : Hid (W.there (w.heap.size + 1) 13 q.cells.size) := h.thr 13 11 (by omega)
theorem own_cells {B S e size n : Nat} {v : Value} {xs : List Value} (hB : S < B) : ∀ (vs : List Value) (o : Nat) (w : World), w.ownsRow B e size v n xs → (w.setCells S o vs).ownsRow B e size v n xs
  | [], _, _, h => h
  | _ :: r, o, _, h => own_cells hB r (o + 1) _ (own_cell h hB)
theorem own_row {B S e size n : Nat} {w : World} {v : Value} {xs : List Value} {cs : Array Value} (h : w.ownsRow B e size v n xs) (hB : S < B) : (w.setRow S cs).ownsRow B e size v n xs := by
  refine ⟨h.1, ?_⟩
  rcases h.2 with h1 | ⟨g, cap, cur, h1, h2, h3, h4⟩
  · exact .inl h1
  · exact .inr ⟨g, cap, cur, h1, h2, (setRow_other w S g cs (by omega)).trans h3, h4⟩
theorem rq64 (h : RQ w W rb l k bd p) : Calls Try.prog 64 #[.pointer (some ⟨rb, 0, none⟩)] W fun e w' => ∃ (q : JB) (k' : Nat) (bd' : Bool), e = .returned (.agg q.cells) ∧ Hid (RQ w w' rb l k' bd' p ∧ ∃ (j : JD) (pa tk : SL), q = j.jb pa tk ∧ w'.ownsRow (w.heap.size + 2) 2 1 pa.v j.pa.length (intsV j.pa) ∧ w'.ownsRow (w.heap.size + 2) 23 4 tk.v j.tk.length (flat j.tk) ∧ OneX jobD l k bd j k' bd') := (rjob_any W rb k l bd h.rd h.le).mono (by
  rintro e w' ⟨j, pa, tk, k', bd', rfl, h2⟩
  obtain ⟨q2, q3, q4, q5, q6, q7⟩ := h2.out
  have hs : w.heap.size + 2 ≤ W.heap.size := (Array.getElem?_eq_some_iff.1 h.b1).1
  exact ⟨_, k', bd', rfl, h.read q3 q2 q4, j, pa, tk, rfl, Joins.ownsRow_le q5 hs, Joins.ownsRow_le q6 hs, q7⟩)
theorem RQ.jbs {q : JB} (h : Hid (RQ w W rb l k' bd' p ∧ ∃ (j : JD) (pa tk : SL), q = j.jb pa tk ∧ W.ownsRow (w.heap.size + 2) 2 1 pa.v j.pa.length (intsV j.pa) ∧ W.ownsRow (w.heap.size + 2) 23 4 tk.v j.tk.length (flat j.tk) ∧ OneX jobD l k bd j k' bd')) : Hid (RQ w (W.setCells (w.heap.size + 1) 13 q.cells.toList) rb l k' bd' { p with jb := q } ∧ ∃ (j : JD) (pa tk : SL), q = j.jb pa tk ∧ (W.setCells (w.heap.size + 1) 13 q.cells.toList).ownsRow (w.heap.size + 2) 2 1 pa.v j.pa.length (intsV j.pa) ∧ (W.setCells (w.heap.size + 1) 13 q.cells.toList).ownsRow (w.heap.size + 2) 23 4 tk.v j.tk.length (flat j.tk) ∧ OneX jobD l k bd j k' bd') := by
  obtain ⟨h1, j, pa, tk, h2, h3, h4, h5⟩ := h.out
  exact ⟨h1.jb q, j, pa, tk, h2, own_cells (by omega) _ _ _ h3, own_cells (by omega) _ _ _ h4, h5⟩
end
/-- plain's answer, of a job -/
def PlJ (w : World) (rb : Nat) (l : List UInt8) (at0 : Nat) (bad : Bool) (e : Ending) (w' : World) : Prop := ∃ (j : JD) (pa tk : SL) (k : Nat) (bad' : Bool), e = .returned (.agg (PL.cells { PL.zero with kind := 5, jb := j.jb pa tk })) ∧ k ≤ l.length ∧ Rf w' rb l k bad' ∧ RdK rb w w' ∧ w'.ownsRow (w.heap.size + 2) 2 1 pa.v j.pa.length (intsV j.pa) ∧ w'.ownsRow (w.heap.size + 2) 23 4 tk.v j.tk.length (flat j.tk) ∧ OneX jobD l at0 bad j k bad'
set_option maxHeartbeats 4000000 in
set_option maxRecDepth 100000 in
theorem plain5 (w : World) (rb at0 : Nat) (l : List UInt8) (bad : Bool) (h : Rf w rb l at0 bad) (ha : at0 ≤ l.length) : Calls Try.prog 34 #[.pointer (some ⟨rb, 0, none⟩), .int .i64 5] w fun e w' => PlJ w rb l at0 bad e w' := by
  obtain ⟨p0, hp⟩ : ∃ p : PL, Hid (p = { PL.zero with kind := 5 }) := ⟨_, rfl⟩
  go_enter Try.func34, Try.ntmps34
  go_upto_region 2 with (first
    | refine wpList_buildTo rfl 32 _ rfl (some 9) rfl p0.cells (by rw [hp.out]; kernel_rfl) ?_
    | refine wpList_store_rowTo rfl 32 _ _ rfl rfl (w.heap.size + 1) p0.cells rfl rfl 32 _ (two_heap w _ _) (size32p p0) rfl (PL.cells_one p0) ?_)
  refine (?_ : ∀ W, Hid (RQ w W rb l at0 bad p0) → Code.wp Try.prog _ _ _ W) _ (RQ.begun h ha)
  clear h ha
  intro W HS
  go_upto_region 32 with (first
    | (go_at_call 64; refine (rq64 HS.out).mono ?_; rintro e w1 ⟨q, a0, d0, rfl, k0⟩; have T0 := k0.out.1.thj q)
    | (refine wpList_store_mid rfl 30 _ _ rfl (w.heap.size + 1) 13 q.cells rfl rfl T0.out (size30q q) (JB.cells_one q) ?_; obtain ⟨p1, hp1⟩ : ∃ r : PL, Hid (r = { p0 with jb := q }) := ⟨_, rfl⟩; have k1 := RQ.jbs k0; rw [← hp1.out] at k1; refine (?_ : ∀ W2, Hid (RQ w W2 rb l a0 d0 p1 ∧ ∃ (j : JD) (pa tk : SL), q = j.jb pa tk ∧ W2.ownsRow (w.heap.size + 2) 2 1 pa.v j.pa.length (intsV j.pa) ∧ W2.ownsRow (w.heap.size + 2) 23 4 tk.v j.tk.length (flat j.tk) ∧ OneX jobD l at0 bad j a0 d0) → wpList Try.prog _ _ _ _ W2) _ k1; clear k1 k0 T0; intro W2 k1))
  have K0 : Hid (RQ w W2 rb l a0 d0 p1) := k1.out.1
  have HF : Hid _ := K0.out.fin
  go_wp2_with (first
    | refine wpList_load_row rfl 32 _ rfl (w.heap.size + 1) rfl 32 p1.cells (0, 0) _ K0.out.b1 Try.underlying32 rfl (size32p _) ?_
    | refine wpList_store_row rfl 32 _ _ rfl w.heap.size p1.cells rfl rfl 32 PL.zero.cells K0.out.b0 (size32p _) rfl (PL.cells_one _) ?_)
  refine bodyPost_ret (back34 _ _ _ w.heap.size rfl HF.out.1) rfl ?_
  obtain ⟨j, pa, tk, rfl, o1, o2, o3⟩ := k1.out.2
  have ep : p1 = { PL.zero with kind := 5, jb := j.jb pa tk } := by rw [hp1.out]; rw [hp.out]
  refine ⟨j, pa, tk, a0, d0, by rw [ep], HF.out.2.1, HF.out.2.2.1, HF.out.2.2.2, ?_, ?_, o3⟩
  · exact own_row o1 (by omega)
  · exact own_row o2 (by omega)
end Go.Proofs.Ytnkkiepoljbhlaa
