/-
  The program's reader: vector. The program's reader: lists. The program's reader: job.
-/
import Derived.Test.YtnkkiepoljbhlaaDd
import Derived.Test.YtnkkiepoljbhlaaLst
import Derived.Test.YtnkkiepoljbhlaaCpy
import Derived.Test.YtnkkiepoljbhlaaRec
namespace Go.Proofs.Ytnkkiepoljbhlaa
open Go.RowKit

/-- a vector's four numbers -/
def pVec (st : Option (List UInt8)) : V4 × Option (List UInt8) := (⟨((pNum st).1 : Nat), ((pNum (pNum st).2).1 : Nat), ((pNum (pNum (pNum st).2).2).1 : Nat), ((pNum (pNum (pNum (pNum st).2).2).2).1 : Nat)⟩, (pNum (pNum (pNum (pNum st).2).2).2).2)
/-- while a vector is read -/
structure VS (w0 w : World) (rb : Nat) (st : Option (List UInt8)) (a b c d : Int) : Prop where
  rd : Rd w rb st
  lt : rb < w0.heap.size
  b0 : w.heap[w0.heap.size]? = some (.cells #[.int .i64 0, .int .i64 0, .int .i64 0, .int .i64 0] 23 (0, 0))
  b1 : w.heap[w0.heap.size + 1]? = some (.cells #[.int .i64 a, .int .i64 b, .int .i64 c, .int .i64 d] 23 (0, 0))
  kp : RdK rb w0 w
theorem four_cells {w : World} {g : Nat} {a b c d : Value} {t : TypeId} (h : w.heap[g]? = some (.cells #[a, b, c, d] t (0, 0))) : (w.cell? ⟨g, 0, none⟩ = some a ∧ w.cell? ⟨g, 1, none⟩ = some b ∧ w.cell? ⟨g, 2, none⟩ = some c ∧ w.cell? ⟨g, 3, none⟩ = some d) ∧ w.frozen? ⟨g, 0, none⟩ = false ∧ w.frozen? ⟨g, 1, none⟩ = false ∧ w.frozen? ⟨g, 2, none⟩ = false ∧ w.frozen? ⟨g, 3, none⟩ = false := by
  unfold World.cell? World.frozen?
  rw [h]
  simp
theorem rd_set_off {w : World} {rb k i : Nat} {v : Value} {st : Option (List UInt8)} (h : Rd w rb st) (hk : rb < k) : Rd (w.setCell ⟨k, i, none⟩ v) rb st := by
  have hb : ∀ j, j ≠ k → (w.setCell ⟨k, i, none⟩ v).heap[j]? = w.heap[j]? := fun j hj => Below.heap_setCell _ _ _ _ (fun e => hj e)
  cases st with
  | none => exact (hb rb (by omega)).trans h
  | some l =>
    obtain ⟨p, c, h1, h2⟩ := h
    refine ⟨p, c, (hb rb (by omega)).trans h1, ?_, h2.nc, h2.bl, h2.cm⟩
    rcases h2.ly with e | ⟨g, o, rfl, hrow⟩
    · exact .inl e
    · refine .inr ⟨g, o, rfl, fun i x hx => ?_⟩
      have h3 := (h2.bl _ rfl).1
      have h1 := hrow i x hx
      unfold World.cell? at h1 ⊢
      rw [hb g (by simp only at h3; omega)]
      exact h1
theorem rdk_set_new {rb k i : Nat} {w0 w : World} {v : Value} (h : RdK rb w0 w) (hk : w0.heap.size ≤ k) : RdK rb w0 (w.setCell ⟨k, i, none⟩ v) :=
  ⟨h.os, h.tape, h.output, by simpa [World.setCell] using h.size, fun j hj hn => (Below.heap_setCell w ⟨k, i, none⟩ v j (by show j ≠ k; omega)).trans (h.block j hj hn)⟩
theorem rd_new {rb k i : Nat} {w0 w : World} {st : Option (List UInt8)} (h : Rd w rb st ∧ RdK rb w0 w) (hr : rb < w0.heap.size) (hk : w0.heap.size ≤ k) (v : Value) : Rd (w.setCell ⟨k, i, none⟩ v) rb st ∧ RdK rb w0 (w.setCell ⟨k, i, none⟩ v) := ⟨rd_set_off h.1 (by omega), rdk_set_new h.2 hk⟩
theorem VS.set {w0 w : World} {rb : Nat} {st : Option (List UInt8)} {a b c d : Int} (h : VS w0 w rb st a b c d) {i : Nat} (x : Int) {a' b' c' d' : Int} (he : #[Value.int .i64 a, .int .i64 b, .int .i64 c, .int .i64 d].setIfInBounds i (.int .i64 x) = #[Value.int .i64 a', .int .i64 b', .int .i64 c', .int .i64 d']) : VS w0 (w.setCell ⟨w0.heap.size + 1, i, none⟩ (.int .i64 x)) rb st a' b' c' d' := by
  refine ⟨rd_set_off h.rd (by have := h.lt; omega), h.lt, (Below.heap_setCell _ _ _ _ (fun e => by simp only at e; omega)).trans h.b0, ?_, rdk_set_new h.kp (by omega)⟩
  rw [← he]
  exact Joins.block_setCell h.b1 _
theorem VS.read {w0 w w' : World} {rb : Nat} {st st' : Option (List UInt8)} {a b c d : Int} (h : VS w0 w rb st a b c d) (hr : Rd w' rb st') (k : RdK rb w w') : VS w0 w' rb st' a b c d := by
  have h0 := (Array.getElem?_eq_some_iff.1 h.b0).1
  have h1 := (Array.getElem?_eq_some_iff.1 h.b1).1
  have := h.lt
  exact ⟨hr, h.lt, (k.block _ h0 (by omega)).trans h.b0, (k.block _ h1 (by omega)).trans h.b1, h.kp.trans k⟩
theorem VS.start {w : World} {rb : Nat} {st : Option (List UInt8)} (h : Rd w rb st) : VS w ((w.alloc (Obj.cells #[.int .i64 0, .int .i64 0, .int .i64 0, .int .i64 0] 23)).alloc (Obj.cells #[.int .i64 0, .int .i64 0, .int .i64 0, .int .i64 0] 23)) rb st 0 0 0 0 := by
  have hB : Below w.heap.size w ((w.alloc (Obj.cells #[.int .i64 0, .int .i64 0, .int .i64 0, .int .i64 0] 23)).alloc (Obj.cells #[.int .i64 0, .int .i64 0, .int .i64 0, .int .i64 0] 23)) := ((Below.refl _ w).alloc (Nat.le_refl _) _).alloc (by simp) _
  refine ⟨h.below hB, h.lt, ?_, ?_, RdK.of_below hB⟩
  · refine (Below.heap_alloc _ _ _ (by simp)).trans ?_
    show (Array.push _ _)[_]? = _
    rw [Array.getElem?_push]
    exact if_pos rfl
  · show (Array.push _ _)[_]? = _
    rw [Array.getElem?_push]
    exact if_pos (by simp)
theorem info23p : (Try.prog.info? 23).map (fun i => (i.zero, i.size)) = some (some (.agg #[.int .i64 0, .int .i64 0, .int .i64 0, .int .i64 0]), 4) := by kernel_rfl
theorem size23 : (Try.prog.info? 23).map (·.size) = some 4 := (zero_of_info info23p).2
theorem res57 : Try.f57.results = #[.cell 2 23] := rfl
theorem back57 (tmps : Array Value) (w : World) (g : Nat) (cs : Array Value) (hp : tmps.getD 2 undef = .pointer (some ⟨g, 0, none⟩)) (hg : w.heap[g]? = some (.cells cs 23 (0, 0))) (hs : cs.size = 4) : (results Try.f57 tmps).run Try.prog w = .ok (.agg cs) w :=
  results_cell_row res57 tmps w g 23 cs (0, 0) _ hp hg Try.underlying23 rfl (by rw [hs]; exact size23)
set_option maxHeartbeats 4000000 in
set_option maxRecDepth 100000 in
theorem vector_any (w : World) (rb : Nat) (st : Option (List UInt8)) (h : Rd w rb st) : Calls Try.prog 57 #[.pointer (some ⟨rb, 0, none⟩)] w fun e w' => e = .returned (pVec st).1.v ∧ Hid (Rd w' rb (pVec st).2 ∧ RdK rb w w') := by
  have H56 : Hid (∀ W s a b c d, VS w W rb s a b c d → Calls Try.prog 56 #[.pointer (some ⟨rb, 0, none⟩)] W fun e w' => e = .returned (.int .i64 ((pNum s).1 : Nat)) ∧ Hid (VS w w' rb (pNum s).2 a b c d)) := fun W s a b c d hv => (number_any W rb s hv.rd).mono (by rintro e w' ⟨h1, h2⟩; exact ⟨h1, hv.read h2.out.1 h2.out.2⟩)
  have HS : Hid (VS w _ rb st 0 0 0 0) := VS.start h
  obtain ⟨s0, hs0⟩ : ∃ s0, st = s0 := ⟨_, rfl⟩
  obtain ⟨n0, s1, h0⟩ : ∃ n s, pNum st = (n, s) := ⟨_, _, rfl⟩
  obtain ⟨n1, s2, h1⟩ : ∃ n s, pNum s1 = (n, s) := ⟨_, _, rfl⟩
  obtain ⟨n2, s3, h2⟩ : ∃ n s, pNum s2 = (n, s) := ⟨_, _, rfl⟩
  obtain ⟨n3, s4, h3⟩ : ∃ n s, pNum s3 = (n, s) := ⟨_, _, rfl⟩
  have HP : Hid (pVec st = (⟨(n0 : Nat), (n1 : Nat), (n2 : Nat), (n3 : Nat)⟩, s4)) := by
    show _ = _
    unfold pVec
    simp only [h0, h1, h2, h3]
  have H0 : Hid (∀ W a b c d, VS w W rb st a b c d → Calls Try.prog 56 #[.pointer (some ⟨rb, 0, none⟩)] W fun e w' => e = .returned (.int .i64 (n0 : Nat)) ∧ Hid (VS w w' rb s1 a b c d)) := fun W a b c d hv => by have := H56.out W st a b c d hv; rw [h0] at this; exact this
  have H1 : Hid (∀ W a b c d, VS w W rb s1 a b c d → Calls Try.prog 56 #[.pointer (some ⟨rb, 0, none⟩)] W fun e w' => e = .returned (.int .i64 (n1 : Nat)) ∧ Hid (VS w w' rb s2 a b c d)) := fun W a b c d hv => by have := H56.out W s1 a b c d hv; rw [h1] at this; exact this
  have H2 : Hid (∀ W a b c d, VS w W rb s2 a b c d → Calls Try.prog 56 #[.pointer (some ⟨rb, 0, none⟩)] W fun e w' => e = .returned (.int .i64 (n2 : Nat)) ∧ Hid (VS w w' rb s3 a b c d)) := fun W a b c d hv => by have := H56.out W s2 a b c d hv; rw [h2] at this; exact this
  have H3 : Hid (∀ W a b c d, VS w W rb s3 a b c d → Calls Try.prog 56 #[.pointer (some ⟨rb, 0, none⟩)] W fun e w' => e = .returned (.int .i64 (n3 : Nat)) ∧ Hid (VS w w' rb s4 a b c d)) := fun W a b c d hv => by have := H56.out W s3 a b c d hv; rw [h3] at this; exact this
  clear h h0 h1 h2 h3 H56 hs0
  go_enter Try.func57, Try.ntmps57
  go_wp2_with fail
  refine wp_loop_rounds 5 ?_
  rw [rounds_succ]
  go_wp2_with (go_at_call 56; refine (H0.out _ _ _ _ _ HS.out).mono ?_; rintro e w1 ⟨rfl, k1⟩; obtain ⟨⟨e0, e1, e2, e3⟩, f0, f1, f2, f3⟩ := four_cells k1.out.b1)
  have K1 : Hid (VS w _ rb s1 n0 0 0 0) := k1.out.set (i := 0) (n0 : Nat) (by rfl)
  clear e0 e1 e2 e3 f0 f1 f2 f3
  rw [rounds_succ]
  go_wp2_with (go_at_call 56; refine (H1.out _ _ _ _ _ K1.out).mono ?_; rintro e w2 ⟨rfl, k2⟩; obtain ⟨⟨e0, e1, e2, e3⟩, f0, f1, f2, f3⟩ := four_cells k2.out.b1)
  have K2 : Hid (VS w _ rb s2 n0 n1 0 0) := k2.out.set (i := 1) (n1 : Nat) (by rfl)
  clear e0 e1 e2 e3 f0 f1 f2 f3
  rw [rounds_succ]
  go_wp2_with (go_at_call 56; refine (H2.out _ _ _ _ _ K2.out).mono ?_; rintro e w3 ⟨rfl, k3⟩; obtain ⟨⟨e0, e1, e2, e3⟩, f0, f1, f2, f3⟩ := four_cells k3.out.b1)
  have K3 : Hid (VS w _ rb s3 n0 n1 n2 0) := k3.out.set (i := 2) (n2 : Nat) (by rfl)
  clear e0 e1 e2 e3 f0 f1 f2 f3
  rw [rounds_succ]
  go_wp2_with (go_at_call 56; refine (H3.out _ _ _ _ _ K3.out).mono ?_; rintro e w4 ⟨rfl, k4⟩; obtain ⟨⟨e0, e1, e2, e3⟩, f0, f1, f2, f3⟩ := four_cells k4.out.b1)
  have K4 : Hid (VS w _ rb s4 n0 n1 n2 n3) := k4.out.set (i := 3) (n3 : Nat) (by rfl)
  clear e0 e1 e2 e3 f0 f1 f2 f3
  obtain ⟨⟨e0, e1, e2, e3⟩, f0, f1, f2, f3⟩ := four_cells K4.out.b1
  obtain ⟨⟨a0, a1, a2, a3⟩, g0, g1, g2, g3⟩ := four_cells K4.out.b0
  rw [rounds_succ]
  clear HS K1 K2 K3 H0 H1 H2 H3 k1 k2 k3
  go_wp2_with fail
  have HB := Joins.block_setCell (i := 3) (Joins.block_setCell (i := 2) (Joins.block_setCell (i := 1) (Joins.block_setCell (i := 0) K4.out.b0 (.int .i64 (n0 : Nat))) (.int .i64 (n1 : Nat))) (.int .i64 (n2 : Nat))) (.int .i64 (n3 : Nat))
  have HW : Hid (Rd _ rb s4 ∧ RdK rb w _) := rd_new (i := 3) (rd_new (i := 2) (rd_new (i := 1) (rd_new (i := 0) ⟨K4.out.rd, K4.out.kp⟩ K4.out.lt (Nat.le_refl _) (.int .i64 (n0 : Nat))) K4.out.lt (Nat.le_refl _) (.int .i64 (n1 : Nat))) K4.out.lt (Nat.le_refl _) (.int .i64 (n2 : Nat))) K4.out.lt (Nat.le_refl _) (.int .i64 (n3 : Nat))
  clear a0 a1 a2 a3 g0 g1 g2 g3 e0 e1 e2 e3 f0 f1 f2 f3
  refine bodyPost_ret (back57 _ _ w.heap.size #[.int .i64 (n0 : Nat), .int .i64 (n1 : Nat), .int .i64 (n2 : Nat), .int .i64 (n3 : Nat)] rfl HB rfl) rfl ?_
  exact ⟨by rw [HP.out]; rfl, by rw [HP.out]; exact HW.out⟩
end Go.Proofs.Ytnkkiepoljbhlaa

namespace Go.Proofs.Ytnkkiepoljbhlaa
open Go.RowKit

/-- a number as a signed one; a text as a string -/
def pInt (st : Option (List UInt8)) : Int × Option (List UInt8) := (((pNum st).1 : Nat), (pNum st).2)
def pStr (st : Option (List UInt8)) : ByteArray × Option (List UInt8) := (⟨⟨(pTxt st).1⟩⟩, (pTxt st).2)
/-- so many of them -/
def pRep {α : Type} (f : Option (List UInt8) → α × Option (List UInt8)) : Nat → Option (List UInt8) → List α × Option (List UInt8)
  | 0, st => ([], st)
  | n + 1, st => ((f st).1 :: (pRep f n (f st).2).1, (pRep f n (f st).2).2)
theorem pRep_length {α : Type} (f : Option (List UInt8) → α × Option (List UInt8)) : ∀ (n : Nat) (st : Option (List UInt8)), (pRep f n st).1.length = n
  | 0, _ => rfl
  | n + 1, st => by show _ + 1 = _; rw [pRep_length f n]
/-- while a list is read -/
structure LS (w0 w : World) (rb : Nat) (st : Option (List UInt8)) (e size : Nat) (v : Value) (k : Nat) (xs : List Value) : Prop where
  rd : Rd w rb st
  lt : rb < w0.heap.size
  own : w.ownsRow w0.heap.size e size v k xs
  kp : RdK rb w0 w
theorem LS.start {w : World} {rb : Nat} {st : Option (List UInt8)} (h : Rd w rb st) (e size : Nat) : LS w w rb st e size (.slice none 0 0) 0 [] := ⟨h, h.lt, World.ownsRow_nil w _ e size, RdK.refl rb w⟩
theorem LS.read {w0 w w' : World} {rb : Nat} {st st' : Option (List UInt8)} {e size : Nat} {v : Value} {k : Nat} {xs : List Value} (h : LS w0 w rb st e size v k xs) (hr : Rd w' rb st') (kk : RdK rb w w') : LS w0 w' rb st' e size v k xs := by
  refine ⟨hr, h.lt, ⟨h.own.1, ?_⟩, h.kp.trans kk⟩
  rcases h.own.2 with h1 | ⟨g, cap, cur, h1, h2, h3, h4⟩
  · exact .inl h1
  · have := h.lt
    exact .inr ⟨g, cap, cur, h1, h2, (kk.block g (Array.getElem?_eq_some_iff.1 h3).1 (by omega)).trans h3, h4⟩
theorem LS.alloc {w0 w : World} {rb : Nat} {st : Option (List UInt8)} {e size : Nat} {v : Value} {k : Nat} {xs : List Value} (h : LS w0 w rb st e size v k xs) (o : Obj) : LS w0 (w.alloc o) rb st e size v k xs :=
  have hB : Below w.heap.size w (w.alloc o) := (Below.refl _ w).alloc (Nat.le_refl _) _
  ⟨h.rd.below hB, h.lt, h.own.alloc o, h.kp.trans (RdK.of_below hB)⟩
theorem Rd.under {w w1 : World} {rb B : Nat} {st : Option (List UInt8)} (h : Rd w rb st) (b : Below B w w1) (hr : rb < B) : Rd w1 rb st := by
  cases st with
  | none => exact (b.block rb hr).trans h
  | some l =>
    obtain ⟨p, c, h1, h2⟩ := h
    refine ⟨p, c, (b.block rb hr).trans h1, ?_, h2.nc, h2.bl, h2.cm⟩
    rcases h2.ly with e | ⟨g, o, rfl, hrow⟩
    · exact .inl e
    · refine .inr ⟨g, o, rfl, fun i x hx => ?_⟩
      have h3 := (h2.bl _ rfl).1
      have h1 := hrow i x hx
      unfold World.cell? at h1 ⊢
      rw [b.block g (by simp only at h3; omega)]
      exact h1
theorem LS.grow {w0 w w' : World} {rb : Nat} {st : Option (List UInt8)} {e size : Nat} {v v' : Value} {k k' : Nat} {xs xs' : List Value} (h : LS w0 w rb st e size v k xs) (ho : w'.ownsRow w0.heap.size e size v' k' xs') (b : Below w0.heap.size w w') : LS w0 w' rb st e size v' k' xs' :=
  ⟨h.rd.under b h.lt, h.lt, ho, ⟨b.os.trans h.kp.os, b.tape.trans h.kp.tape, b.output.trans h.kp.output, Nat.le_trans h.kp.size b.size, fun j hj hn => (b.block j hj).trans (h.kp.block j hj hn)⟩⟩
theorem flat_snoc (l : List V4) (x : V4) : flat (l ++ [x]) = flat l ++ [.int .i64 x.a, .int .i64 x.b, .int .i64 x.c, .int .i64 x.d] := by
  induction l with
  | nil => rfl
  | cons v l ih => simp only [List.cons_append, flat, ih]
theorem ints_snoc (l : List Int) (x : Int) : intsV (l ++ [x]) = intsV l ++ [.int .i64 x] := by unfold intsV; rw [List.map_append]; rfl
theorem strs_snoc (l : List ByteArray) (x : ByteArray) : textsV (l ++ [x]) = textsV l ++ [.string x] := by unfold textsV; rw [List.map_append]; rfl
theorem lies_four {w : World} {a b c d : Value} {t : TypeId} : LiesV (w.alloc (.cells #[a, b, c, d] t)) (some ⟨w.heap.size, 0, none⟩) [a, b, c, d] := by
  refine .inr ⟨w.heap.size, 0, rfl, fun j u hj => ?_⟩
  have h : (w.alloc (.cells #[a, b, c, d] t)).heap[w.heap.size]? = some (.cells #[a, b, c, d] t (0, 0)) := new0
  obtain ⟨⟨e0, e1, e2, e3⟩, -⟩ := four_cells h
  match j, hj with
  | 0, hj => cases hj; exact e0
  | 1, hj => cases hj; exact e1
  | 2, hj => cases hj; exact e2
  | 3, hj => cases hj; exact e3
theorem rep_next {α : Type} {f : Option (List UInt8) → α × Option (List UInt8)} {n i : Nat} {st s : Option (List UInt8)} {acc : List α} (hi : i < n) (h : pRep f n st = (acc ++ (pRep f (n - i) s).1, (pRep f (n - i) s).2)) : pRep f n st = ((acc ++ [(f s).1]) ++ (pRep f (n - (i + 1)) (f s).2).1, (pRep f (n - (i + 1)) (f s).2).2) := by
  rw [h, show n - i = n - (i + 1) + 1 by omega]
  simp only [pRep, List.append_assoc, List.singleton_append]
set_option maxHeartbeats 2000000 in
set_option maxRecDepth 100000 in
theorem list_vec (w : World) (rb n : Nat) (st : Option (List UInt8)) (h : Rd w rb st) (hn : n < 1048576) : Calls Try.prog 74 #[.int .i64 n, .func (.func 57) #[.pointer (some ⟨rb, 0, none⟩)] #[]] w fun e w' => ∃ v, e = .returned v ∧ Hid (LS w w' rb (pRep pVec n st).2 23 4 v n (flat (pRep pVec n st).1)) := by
  have HI : Hid (∀ W s v k xs, LS w W rb s 23 4 v k xs → Calls Try.prog 57 #[.pointer (some ⟨rb, 0, none⟩)] W fun e w' => e = .returned (.agg #[.int .i64 (pVec s).1.a, .int .i64 (pVec s).1.b, .int .i64 (pVec s).1.c, .int .i64 (pVec s).1.d]) ∧ Hid (LS w w' rb (pVec s).2 23 4 v k xs)) := fun W s v k xs hv => (vector_any W rb s hv.rd).mono (by rintro e w' ⟨h1, h2⟩; exact ⟨h1, hv.read h2.out.1 h2.out.2⟩)
  have HS : Hid (LS w w rb st 23 4 (.slice none 0 0) 0 []) := LS.start h 23 4
  clear h
  go_enter Try.func74, Try.ntmps74
  go_wp2_with fail
  go_loopw [5, 7] (fun x y wr => ∃ (i : Nat) (q : Option Addr) (j c : Nat), x = .slice q j c ∧ y = .int .i64 i ∧ i ≤ n ∧ Hid (∃ acc s, LS w wr rb s 23 4 (.slice q j c) i (flat acc) ∧ pRep pVec n st = (acc ++ (pRep pVec (n - i) s).1, (pRep pVec (n - i) s).2))) (fun _ y _ => n - (intOf y).toNat)
  case atStart => exact ⟨0, none, 0, 0, rfl, rfl, Nat.zero_le _, [], st, HS.out, by simp⟩
  case round =>
    obtain ⟨i, q, j, c, rfl, rfl, hi, HX⟩ := hrel
    by_cases h0 : i = n
    · subst h0
      have HE : Hid (LS w wr rb (pRep pVec i st).2 23 4 (.slice q j c) i (flat (pRep pVec i st).1)) := by
        obtain ⟨acc, s, h1, h2⟩ := HX.out
        rw [Nat.sub_self] at h2
        rw [h2]
        show LS _ _ _ _ _ _ _ _ _
        simpa [pRep] using h1
      clear HX
      go_wp2_with fail
      go_ret
      exact ⟨_, rfl, HE.out⟩
    · have hin : (i : Int) < (n : Int) := by omega
      obtain ⟨acc, s, h1, h2⟩ := HX.out
      have H1 : Hid (LS w wr rb s 23 4 (.slice q j c) i (flat acc)) := h1
      have H2 : Hid (pRep pVec n st = ((acc ++ [(pVec s).1]) ++ (pRep pVec (n - (i + 1)) (pVec s).2).1, (pRep pVec (n - (i + 1)) (pVec s).2).2)) := rep_next (by omega) h2
      have HF : Hid (flat (acc ++ [(pVec s).1]) = flat acc ++ [.int .i64 (pVec s).1.a, .int .i64 (pVec s).1.b, .int .i64 (pVec s).1.c, .int .i64 (pVec s).1.d]) := flat_snoc _ _
      clear h1 h2 HX
      go_wp2_with (go_at_call 57; refine (HI.out _ _ _ _ _ H1.out).mono ?_)
      rintro e w2 ⟨rfl, k1⟩
      have K2 : Hid (LS w (w2.alloc (.cells #[.int .i64 (pVec s).1.a, .int .i64 (pVec s).1.b, .int .i64 (pVec s).1.c, .int .i64 (pVec s).1.d] 23)) rb (pVec s).2 23 4 (.slice q j c) i (flat acc)) := k1.out.alloc _
      go_wp2_with (at_builtin; refine append_vals (w := w2.alloc (.cells #[.int .i64 (pVec s).1.a, .int .i64 (pVec s).1.b, .int .i64 (pVec s).1.c, .int .i64 (pVec s).1.d] 23)) Try.underlying27 info23 rfl (by decide) rfl _ _ rfl w.heap.size (.slice q j c) i (flat acc) rfl K2.out.own ⟨w2.heap.size, 0, none⟩ 1 1 [.int .i64 (pVec s).1.a, .int .i64 (pVec s).1.b, .int .i64 (pVec s).1.c, .int .i64 (pVec s).1.d] rfl rfl lies_four (fun u hu => by simp at hu; first | (subst hu; rfl) | (rcases hu with rfl | rfl | rfl | rfl <;> rfl)) (by unfold maxLen; omega) (by omega) K2.out.kp.size ?_; intro v' w4 o1 b1)
      obtain ⟨s', rfl, -⟩ := slh_own o1
      refine ⟨⟨i + 1, s'.a, s'.n, s'.c, rfl, by go_num, by omega, acc ++ [(pVec s).1], (pVec s).2, ?_, H2.out⟩, ?_⟩
      · rw [HF.out]; exact K2.out.grow o1 b1
      · simp [intOf]; omega
set_option maxHeartbeats 2000000 in
set_option maxRecDepth 100000 in
theorem list_int (w : World) (rb n : Nat) (st : Option (List UInt8)) (h : Rd w rb st) (hn : n < 1048576) : Calls Try.prog 73 #[.int .i64 n, .func (.func 56) #[.pointer (some ⟨rb, 0, none⟩)] #[]] w fun e w' => ∃ v, e = .returned v ∧ Hid (LS w w' rb (pRep pInt n st).2 2 1 v n (intsV (pRep pInt n st).1)) := by
  have HI : Hid (∀ W s v k xs, LS w W rb s 2 1 v k xs → Calls Try.prog 56 #[.pointer (some ⟨rb, 0, none⟩)] W fun e w' => e = .returned (.int .i64 (pInt s).1) ∧ Hid (LS w w' rb (pInt s).2 2 1 v k xs)) := fun W s v k xs hv => (number_any W rb s hv.rd).mono (by rintro e w' ⟨h1, h2⟩; exact ⟨h1, hv.read h2.out.1 h2.out.2⟩)
  have HS : Hid (LS w w rb st 2 1 (.slice none 0 0) 0 []) := LS.start h 2 1
  clear h
  go_enter Try.func73, Try.ntmps73
  go_wp2_with fail
  go_loopw [5, 7] (fun x y wr => ∃ (i : Nat) (q : Option Addr) (j c : Nat), x = .slice q j c ∧ y = .int .i64 i ∧ i ≤ n ∧ Hid (∃ acc s, LS w wr rb s 2 1 (.slice q j c) i (intsV acc) ∧ pRep pInt n st = (acc ++ (pRep pInt (n - i) s).1, (pRep pInt (n - i) s).2))) (fun _ y _ => n - (intOf y).toNat)
  case atStart => exact ⟨0, none, 0, 0, rfl, rfl, Nat.zero_le _, [], st, HS.out, by simp⟩
  case round =>
    obtain ⟨i, q, j, c, rfl, rfl, hi, HX⟩ := hrel
    by_cases h0 : i = n
    · subst h0
      have HE : Hid (LS w wr rb (pRep pInt i st).2 2 1 (.slice q j c) i (intsV (pRep pInt i st).1)) := by
        obtain ⟨acc, s, h1, h2⟩ := HX.out
        rw [Nat.sub_self] at h2
        rw [h2]
        show LS _ _ _ _ _ _ _ _ _
        simpa [pRep] using h1
      clear HX
      go_wp2_with fail
      go_ret
      exact ⟨_, rfl, HE.out⟩
    · have hin : (i : Int) < (n : Int) := by omega
      obtain ⟨acc, s, h1, h2⟩ := HX.out
      have H1 : Hid (LS w wr rb s 2 1 (.slice q j c) i (intsV acc)) := h1
      have H2 : Hid (pRep pInt n st = ((acc ++ [(pInt s).1]) ++ (pRep pInt (n - (i + 1)) (pInt s).2).1, (pRep pInt (n - (i + 1)) (pInt s).2).2)) := rep_next (by omega) h2
      have HF : Hid (intsV (acc ++ [(pInt s).1]) = intsV acc ++ [.int .i64 (pInt s).1]) := ints_snoc _ _
      clear h1 h2 HX
      go_wp2_with (go_at_call 56; refine (HI.out _ _ _ _ _ H1.out).mono ?_)
      rintro e w2 ⟨rfl, k1⟩
      have K2 : Hid (LS w (w2.alloc (.cells #[.int .i64 (pInt s).1] 2)) rb (pInt s).2 2 1 (.slice q j c) i (intsV acc)) := k1.out.alloc _
      go_wp2_with (at_builtin; refine append_vals (w := w2.alloc (.cells #[.int .i64 (pInt s).1] 2)) Try.underlying26 info2 rfl (by decide) rfl _ _ rfl w.heap.size (.slice q j c) i (intsV acc) rfl K2.out.own ⟨w2.heap.size, 0, none⟩ 1 1 [.int .i64 (pInt s).1] rfl rfl liesv_one (fun u hu => by simp at hu; first | (subst hu; rfl) | (rcases hu with rfl | rfl | rfl | rfl <;> rfl)) (by unfold maxLen; omega) (by omega) K2.out.kp.size ?_; intro v' w4 o1 b1)
      obtain ⟨s', rfl, -⟩ := slh_own o1
      refine ⟨⟨i + 1, s'.a, s'.n, s'.c, rfl, by go_num, by omega, acc ++ [(pInt s).1], (pInt s).2, ?_, H2.out⟩, ?_⟩
      · rw [HF.out]; exact K2.out.grow o1 b1
      · simp [intOf]; omega
set_option maxHeartbeats 2000000 in
set_option maxRecDepth 100000 in
theorem list_txt (w : World) (rb n : Nat) (st : Option (List UInt8)) (h : Rd w rb st) (hn : n < 1048576) : Calls Try.prog 59 #[.int .i64 n, .func (.func 55) #[.pointer (some ⟨rb, 0, none⟩)] #[]] w fun e w' => ∃ v, e = .returned v ∧ Hid (LS w w' rb (pRep pStr n st).2 9 1 v n (textsV (pRep pStr n st).1)) := by
  have HI : Hid (∀ W s v k xs, LS w W rb s 9 1 v k xs → Calls Try.prog 55 #[.pointer (some ⟨rb, 0, none⟩)] W fun e w' => e = .returned (.string (pStr s).1) ∧ Hid (LS w w' rb (pStr s).2 9 1 v k xs)) := fun W s v k xs hv => (text_any W rb s hv.rd).mono (by rintro e w' ⟨h1, h2⟩; exact ⟨h1, hv.read h2.out.1 h2.out.2⟩)
  have HS : Hid (LS w w rb st 9 1 (.slice none 0 0) 0 []) := LS.start h 9 1
  clear h
  go_enter Try.func59, Try.ntmps59
  go_wp2_with fail
  go_loopw [5, 7] (fun x y wr => ∃ (i : Nat) (q : Option Addr) (j c : Nat), x = .slice q j c ∧ y = .int .i64 i ∧ i ≤ n ∧ Hid (∃ acc s, LS w wr rb s 9 1 (.slice q j c) i (textsV acc) ∧ pRep pStr n st = (acc ++ (pRep pStr (n - i) s).1, (pRep pStr (n - i) s).2))) (fun _ y _ => n - (intOf y).toNat)
  case atStart => exact ⟨0, none, 0, 0, rfl, rfl, Nat.zero_le _, [], st, HS.out, by simp⟩
  case round =>
    obtain ⟨i, q, j, c, rfl, rfl, hi, HX⟩ := hrel
    by_cases h0 : i = n
    · subst h0
      have HE : Hid (LS w wr rb (pRep pStr i st).2 9 1 (.slice q j c) i (textsV (pRep pStr i st).1)) := by
        obtain ⟨acc, s, h1, h2⟩ := HX.out
        rw [Nat.sub_self] at h2
        rw [h2]
        show LS _ _ _ _ _ _ _ _ _
        simpa [pRep] using h1
      clear HX
      go_wp2_with fail
      go_ret
      exact ⟨_, rfl, HE.out⟩
    · have hin : (i : Int) < (n : Int) := by omega
      obtain ⟨acc, s, h1, h2⟩ := HX.out
      have H1 : Hid (LS w wr rb s 9 1 (.slice q j c) i (textsV acc)) := h1
      have H2 : Hid (pRep pStr n st = ((acc ++ [(pStr s).1]) ++ (pRep pStr (n - (i + 1)) (pStr s).2).1, (pRep pStr (n - (i + 1)) (pStr s).2).2)) := rep_next (by omega) h2
      have HF : Hid (textsV (acc ++ [(pStr s).1]) = textsV acc ++ [.string (pStr s).1]) := strs_snoc _ _
      clear h1 h2 HX
      go_wp2_with (go_at_call 55; refine (HI.out _ _ _ _ _ H1.out).mono ?_)
      rintro e w2 ⟨rfl, k1⟩
      have K2 : Hid (LS w (w2.alloc (.cells #[.string (pStr s).1] 9)) rb (pStr s).2 9 1 (.slice q j c) i (textsV acc)) := k1.out.alloc _
      go_wp2_with (at_builtin; refine append_vals (w := w2.alloc (.cells #[.string (pStr s).1] 9)) Try.underlying28 info9 rfl (by decide) rfl _ _ rfl w.heap.size (.slice q j c) i (textsV acc) rfl K2.out.own ⟨w2.heap.size, 0, none⟩ 1 1 [.string (pStr s).1] rfl rfl liesv_one (fun u hu => by simp at hu; first | (subst hu; rfl) | (rcases hu with rfl | rfl | rfl | rfl <;> rfl)) (by unfold maxLen; omega) (by omega) K2.out.kp.size ?_; intro v' w4 o1 b1)
      obtain ⟨s', rfl, -⟩ := slh_own o1
      refine ⟨⟨i + 1, s'.a, s'.n, s'.c, rfl, by go_num, by omega, acc ++ [(pStr s).1], (pStr s).2, ?_, H2.out⟩, ?_⟩
      · rw [HF.out]; exact K2.out.grow o1 b1
      · simp [intOf]; omega
end Go.Proofs.Ytnkkiepoljbhlaa

namespace Go.Proofs.Ytnkkiepoljbhlaa
open Go.RowKit

/-- a job as it is read -/
structure JD where
  id : Nat
  tn : List UInt8
  pr : Nat
  rt : Nat
  pa : List Int
  tk : List V4
def pJob (st : Option (List UInt8)) : JD × Option (List UInt8) :=
  let a := pNum st
  let b := pTxt a.2
  let c := pNum b.2
  let d := pNum c.2
  let e := pUp 4 d.2
  let f := pRep pInt e.1 e.2
  let g := pUp 6 f.2
  let h := pRep pVec g.1 g.2
  (⟨a.1, b.1, c.1, d.1, f.1, h.1⟩, h.2)
def JD.jb (j : JD) (pa tk : SL) : JB := ⟨j.id, ⟨⟨j.tn⟩⟩, j.pr, j.rt, pa, tk, 0, 0, .nil, 0, .nil⟩
/-- while a job is read -/
structure JS (w0 w : World) (rb : Nat) (st : Option (List UInt8)) : Prop where
  rd : Rd w rb st
  lt : rb < w0.heap.size
  b0 : w.heap[w0.heap.size]? = some (.cells JB.zero.cells 30 (0, 0))
  kp : RdK rb w0 w
theorem JS.read {w0 w w' : World} {rb : Nat} {st st' : Option (List UInt8)} (h : JS w0 w rb st) (hr : Rd w' rb st') (k : RdK rb w w') : JS w0 w' rb st' := by
  have h0 := (Array.getElem?_eq_some_iff.1 h.b0).1
  have := h.lt
  exact ⟨hr, h.lt, (k.block _ h0 (by omega)).trans h.b0, h.kp.trans k⟩
theorem own_read {w w' : World} {rb B e size n : Nat} {v : Value} {xs : List Value} (h : w.ownsRow B e size v n xs) (hB : rb < B) (k : RdK rb w w') : w'.ownsRow B e size v n xs := by
  refine ⟨h.1, ?_⟩
  rcases h.2 with h1 | ⟨g, cap, cur, h1, h2, h3, h4⟩
  · exact .inl h1
  · exact .inr ⟨g, cap, cur, h1, h2, (k.block g (Array.getElem?_eq_some_iff.1 h3).1 (by omega)).trans h3, h4⟩
theorem own_put {w : World} {S B e size n : Nat} {v : Value} {xs : List Value} {cs : Array Value} (h : w.ownsRow B e size v n xs) (hB : S < B) : (w.setRow S cs).ownsRow B e size v n xs := by
  refine ⟨h.1, ?_⟩
  rcases h.2 with h1 | ⟨g, cap, cur, h1, h2, h3, h4⟩
  · exact .inl h1
  · exact .inr ⟨g, cap, cur, h1, h2, (setRow_other w S g cs (by omega)).trans h3, h4⟩
theorem rd_put {w : World} {rb k : Nat} {cs : Array Value} {st : Option (List UInt8)} (h : Rd w rb st) (hk : rb < k) : Rd (w.setRow k cs) rb st := by
  have hb : ∀ j, j ≠ k → (w.setRow k cs).heap[j]? = w.heap[j]? := fun j hj => setRow_other w k j cs hj
  cases st with
  | none => exact (hb rb (by omega)).trans h
  | some l =>
    obtain ⟨p, c, h1, h2⟩ := h
    refine ⟨p, c, (hb rb (by omega)).trans h1, ?_, h2.nc, h2.bl, h2.cm⟩
    rcases h2.ly with e | ⟨g, o, rfl, hrow⟩
    · exact .inl e
    · refine .inr ⟨g, o, rfl, fun i x hx => ?_⟩
      have h3 := (h2.bl _ rfl).1
      have h1 := hrow i x hx
      unfold World.cell? at h1 ⊢
      rw [hb g (by simp only at h3; omega)]
      exact h1
theorem rdk_put {rb k : Nat} {w0 w : World} {cs : Array Value} (h : RdK rb w0 w) (hk : w0.heap.size ≤ k) : RdK rb w0 (w.setRow k cs) :=
  ⟨h.os, h.tape, h.output, by rw [size_setRow]; exact h.size, fun j hj hn => (setRow_other w k j cs (by omega)).trans (h.block j hj hn)⟩
theorem JS.start {w : World} {rb : Nat} {st : Option (List UInt8)} (h : Rd w rb st) : JS w (w.alloc (Obj.cells JB.zero.cells 30)) rb st :=
  have hB : Below w.heap.size w (w.alloc (Obj.cells JB.zero.cells 30)) := (Below.refl _ w).alloc (Nat.le_refl _) _
  ⟨h.below hB, h.lt, new0, RdK.of_below hB⟩
theorem info30p : (Try.prog.info? 30).map (fun i => (i.zero, i.size)) = some (some (.agg JB.zero.cells), 11) := by kernel_rfl
theorem size30 : (Try.prog.info? 30).map (·.size) = some 11 := (zero_of_info info30p).2
theorem res58 : Try.f58.results = #[.cell 2 30] := rfl
theorem back58 (tmps : Array Value) (w : World) (g : Nat) (cs : Array Value) (hp : tmps.getD 2 undef = .pointer (some ⟨g, 0, none⟩)) (hg : w.heap[g]? = some (.cells cs 30 (0, 0))) (hs : cs.size = 11) : (results Try.f58 tmps).run Try.prog w = .ok (.agg cs) w :=
  results_cell_row res58 tmps w g 30 cs (0, 0) _ hp hg Try.underlying30 rfl (by rw [hs]; exact size30)
theorem sl_own {w w' : World} {rb e size n : Nat} {v : Value} {xs : List Value} {st : Option (List UInt8)} (h : LS w w' rb st e size v n xs) {B : Nat} (hB : B ≤ w.heap.size) : ∃ s : SL, v = .slice s.a s.n s.c ∧ w'.ownsRow B e size s.v n xs := by
  obtain ⟨s, rfl, -⟩ := slh_own h.own
  exact ⟨s, rfl, Joins.ownsRow_le h.own hB⟩
set_option maxHeartbeats 4000000 in
set_option maxRecDepth 100000 in
theorem job_any (w : World) (rb : Nat) (st : Option (List UInt8)) (h : Rd w rb st) : Calls Try.prog 58 #[.pointer (some ⟨rb, 0, none⟩)] w fun e w' => ∃ pa tk : SL, e = .returned (.agg ((pJob st).1.jb pa tk).cells) ∧ Hid (Rd w' rb (pJob st).2 ∧ RdK rb w w' ∧ w'.ownsRow w.heap.size 2 1 pa.v (pJob st).1.pa.length (intsV (pJob st).1.pa) ∧ w'.ownsRow w.heap.size 23 4 tk.v (pJob st).1.tk.length (flat (pJob st).1.tk)) := by
  have H56 : ∀ W s, JS w W rb s → Calls Try.prog 56 #[.pointer (some ⟨rb, 0, none⟩)] W fun e w' => e = .returned (.int .i64 ((pNum s).1 : Nat)) ∧ Hid (JS w w' rb (pNum s).2 ∧ RdK rb W w') := fun W s hv => (number_any W rb s hv.rd).mono (by rintro e w' ⟨h1, h2⟩; exact ⟨h1, hv.read h2.out.1 h2.out.2, h2.out.2⟩)
  have H55 : ∀ W s, JS w W rb s → Calls Try.prog 55 #[.pointer (some ⟨rb, 0, none⟩)] W fun e w' => e = .returned (.string ⟨⟨(pTxt s).1⟩⟩) ∧ Hid (JS w w' rb (pTxt s).2 ∧ RdK rb W w') := fun W s hv => (text_any W rb s hv.rd).mono (by rintro e w' ⟨h1, h2⟩; exact ⟨h1, hv.read h2.out.1 h2.out.2, h2.out.2⟩)
  have H60 : ∀ (m : Nat) W s, JS w W rb s → Calls Try.prog 60 #[.pointer (some ⟨rb, 0, none⟩), .int .i64 m] W fun e w' => e = .returned (.int .i64 ((pUp m s).1 : Nat)) ∧ Hid (JS w w' rb (pUp m s).2 ∧ RdK rb W w') := fun m W s hv => (upTo_any W rb m s hv.rd).mono (by rintro e w' ⟨h1, h2⟩; exact ⟨h1, hv.read h2.out.1 h2.out.2, h2.out.2⟩)
  have H73 : ∀ (n : Nat) W s, n < 1048576 → JS w W rb s → Calls Try.prog 73 #[.int .i64 n, .func (.func 56) #[.pointer (some ⟨rb, 0, none⟩)] #[]] W fun e w' => ∃ l : SL, e = .returned (.slice l.a l.n l.c) ∧ Hid (JS w w' rb (pRep pInt n s).2 ∧ RdK rb W w' ∧ w'.ownsRow (w.heap.size + 1) 2 1 l.v n (intsV (pRep pInt n s).1)) := fun n W s hn hv => (list_int W rb n s hv.rd hn).mono (by
    rintro e w' ⟨v, rfl, h2⟩
    have := (Array.getElem?_eq_some_iff.1 hv.b0).1
    obtain ⟨l, rfl, ho⟩ := sl_own h2.out (B := w.heap.size + 1) (by omega)
    exact ⟨l, rfl, hv.read h2.out.rd h2.out.kp, h2.out.kp, ho⟩)
  have H74 : ∀ (n : Nat) W s, n < 1048576 → JS w W rb s → Calls Try.prog 74 #[.int .i64 n, .func (.func 57) #[.pointer (some ⟨rb, 0, none⟩)] #[]] W fun e w' => ∃ l : SL, e = .returned (.slice l.a l.n l.c) ∧ Hid (JS w w' rb (pRep pVec n s).2 ∧ RdK rb W w' ∧ w'.ownsRow (w.heap.size + 1) 23 4 l.v n (flat (pRep pVec n s).1)) := fun n W s hn hv => (list_vec W rb n s hv.rd hn).mono (by
    rintro e w' ⟨v, rfl, h2⟩
    have := (Array.getElem?_eq_some_iff.1 hv.b0).1
    obtain ⟨l, rfl, ho⟩ := sl_own h2.out (B := w.heap.size + 1) (by omega)
    exact ⟨l, rfl, hv.read h2.out.rd h2.out.kp, h2.out.kp, ho⟩)
  have HS : Hid (JS w _ rb st) := JS.start h
  obtain ⟨n0, s1, e0⟩ : ∃ n s, pNum st = (n, s) := ⟨_, _, rfl⟩
  obtain ⟨n1, s2, e1⟩ : ∃ n s, pTxt s1 = (n, s) := ⟨_, _, rfl⟩
  obtain ⟨n2, s3, e2⟩ : ∃ n s, pNum s2 = (n, s) := ⟨_, _, rfl⟩
  obtain ⟨n3, s4, e3⟩ : ∃ n s, pNum s3 = (n, s) := ⟨_, _, rfl⟩
  obtain ⟨n4, s5, e4⟩ : ∃ n s, pUp 4 s4 = (n, s) := ⟨_, _, rfl⟩
  obtain ⟨l5, s6, e5⟩ : ∃ l s, pRep pInt n4 s5 = (l, s) := ⟨_, _, rfl⟩
  obtain ⟨n6, s7, e6⟩ : ∃ n s, pUp 6 s6 = (n, s) := ⟨_, _, rfl⟩
  obtain ⟨l7, s8, e7⟩ : ∃ l s, pRep pVec n6 s7 = (l, s) := ⟨_, _, rfl⟩
  have q4 : n4 ≤ 4 := by have := pUp_le (most := 4) (st := s4); rw [e4] at this; exact this
  have q6 : n6 ≤ 6 := by have := pUp_le (most := 6) (st := s6); rw [e6] at this; exact this
  have HP : Hid (pJob st = (⟨n0, n1, n2, n3, l5, l7⟩, s8) ∧ l5.length = n4 ∧ l7.length = n6) := by
    refine ⟨?_, by have := pRep_length pInt n4 s5; rw [e5] at this; exact this, by have := pRep_length pVec n6 s7; rw [e7] at this; exact this⟩
    unfold pJob
    simp only [e0, e1, e2, e3, e4, e5, e6, e7]
  have A0 : Hid (∀ W, JS w W rb st → _) := fun W => H56 W st
  have A1 : Hid (∀ W, JS w W rb s1 → _) := fun W => H55 W s1
  have A2 : Hid (∀ W, JS w W rb s2 → _) := fun W => H56 W s2
  have A3 : Hid (∀ W, JS w W rb s3 → _) := fun W => H56 W s3
  have A4 : Hid (∀ W, JS w W rb s4 → _) := fun W => H60 4 W s4
  have A5 : Hid (∀ W, JS w W rb s5 → _) := fun W => H73 n4 W s5 (by omega)
  have A6 : Hid (∀ W, JS w W rb s6 → _) := fun W => H60 6 W s6
  have A7 : Hid (∀ W, JS w W rb s7 → _) := fun W => H74 n6 W s7 (by omega)
  rw [e0] at A0; rw [e1] at A1; rw [e2] at A2; rw [e3] at A3; rw [e4] at A4; rw [e5] at A5; rw [e6] at A6; rw [e7] at A7
  clear h H55 H56 H60 H73 H74 e0 e1 e2 e3 e4 e5 e6 e7 q4 q6
  go_enter Try.func58, Try.ntmps58
  go_wp2_with (first
    | (go_at_call 56; refine (A0.out _ HS.out).mono ?_; rintro e w1 ⟨rfl, k1⟩)
    | (go_at_call 55; refine (A1.out _ k1.out.1).mono ?_; rintro e w2 ⟨rfl, k2⟩)
    | (go_at_call 56; refine (A2.out _ k2.out.1).mono ?_; rintro e w3 ⟨rfl, k3⟩)
    | (go_at_call 56; refine (A3.out _ k3.out.1).mono ?_; rintro e w4 ⟨rfl, k4⟩)
    | (go_at_call 60; refine (A4.out _ k4.out.1).mono ?_; rintro e w5 ⟨rfl, k5⟩))
  refine (A5.out _ k5.out.1).mono ?_
  rintro e w6 ⟨l6, rfl, k6⟩
  go_wp2_with (go_at_call 60; refine (A6.out _ k6.out.1).mono ?_; rintro e w7 ⟨rfl, k7⟩)
  refine (A7.out _ k7.out.1).mono ?_
  rintro e w8 ⟨l8, rfl, k8⟩
  have K8 := k8.out.1.b0
  have S30 : (Try.prog.info? 30).map (·.size) = some (#[.int .i64 (n0 : Nat), .string ⟨⟨n1⟩⟩, .int .i64 (n2 : Nat), .int .i64 (n3 : Nat), .slice l6.a l6.n l6.c, .slice l8.a l8.n l8.c, .int .i64 0, .int .i64 0, .slice none 0 0, .int .i64 0, .slice none 0 0] : Array Value).size := size30
  have O30 : (#[.int .i64 (n0 : Nat), .string ⟨⟨n1⟩⟩, .int .i64 (n2 : Nat), .int .i64 (n3 : Nat), .slice l6.a l6.n l6.c, .slice l8.a l8.n l8.c, .int .i64 0, .int .i64 0, .slice none 0 0, .int .i64 0, .slice none 0 0] : Array Value).all (·.oneCell') = true := by simp [Value.oneCell']
  have Z30 : JB.zero.cells.size = (#[.int .i64 (n0 : Nat), .string ⟨⟨n1⟩⟩, .int .i64 (n2 : Nat), .int .i64 (n3 : Nat), .slice l6.a l6.n l6.c, .slice l8.a l8.n l8.c, .int .i64 0, .int .i64 0, .slice none 0 0, .int .i64 0, .slice none 0 0] : Array Value).size := by rfl
  have HE : Hid (Rd (w8.setRow w.heap.size #[.int .i64 (n0 : Nat), .string ⟨⟨n1⟩⟩, .int .i64 (n2 : Nat), .int .i64 (n3 : Nat), .slice l6.a l6.n l6.c, .slice l8.a l8.n l8.c, .int .i64 0, .int .i64 0, .slice none 0 0, .int .i64 0, .slice none 0 0]) rb s8 ∧ RdK rb w (w8.setRow w.heap.size #[.int .i64 (n0 : Nat), .string ⟨⟨n1⟩⟩, .int .i64 (n2 : Nat), .int .i64 (n3 : Nat), .slice l6.a l6.n l6.c, .slice l8.a l8.n l8.c, .int .i64 0, .int .i64 0, .slice none 0 0, .int .i64 0, .slice none 0 0]) ∧ (w8.setRow w.heap.size #[.int .i64 (n0 : Nat), .string ⟨⟨n1⟩⟩, .int .i64 (n2 : Nat), .int .i64 (n3 : Nat), .slice l6.a l6.n l6.c, .slice l8.a l8.n l8.c, .int .i64 0, .int .i64 0, .slice none 0 0, .int .i64 0, .slice none 0 0]).heap[w.heap.size]? = some (.cells #[.int .i64 (n0 : Nat), .string ⟨⟨n1⟩⟩, .int .i64 (n2 : Nat), .int .i64 (n3 : Nat), .slice l6.a l6.n l6.c, .slice l8.a l8.n l8.c, .int .i64 0, .int .i64 0, .slice none 0 0, .int .i64 0, .slice none 0 0] 30 (0, 0)) ∧ (w8.setRow w.heap.size #[.int .i64 (n0 : Nat), .string ⟨⟨n1⟩⟩, .int .i64 (n2 : Nat), .int .i64 (n3 : Nat), .slice l6.a l6.n l6.c, .slice l8.a l8.n l8.c, .int .i64 0, .int .i64 0, .slice none 0 0, .int .i64 0, .slice none 0 0]).ownsRow w.heap.size 2 1 l6.v n4 (intsV l5) ∧ (w8.setRow w.heap.size #[.int .i64 (n0 : Nat), .string ⟨⟨n1⟩⟩, .int .i64 (n2 : Nat), .int .i64 (n3 : Nat), .slice l6.a l6.n l6.c, .slice l8.a l8.n l8.c, .int .i64 0, .int .i64 0, .slice none 0 0, .int .i64 0, .slice none 0 0]).ownsRow w.heap.size 23 4 l8.v n6 (flat l7)) := by
    have hlt := k8.out.1.lt
    refine ⟨rd_put k8.out.1.rd hlt, rdk_put k8.out.1.kp (Nat.le_refl _), setRow_heap w8 _ _ _ 30 (0, 0) K8, ?_, ?_⟩
    · exact Joins.ownsRow_le (own_put (own_read k6.out.2.2 (by omega) (k7.out.2.trans k8.out.2.1)) (Nat.lt_succ_self _)) (Nat.le_succ _)
    · exact Joins.ownsRow_le (own_put k8.out.2.2 (Nat.lt_succ_self _)) (Nat.le_succ _)
  clear A0 A1 A2 A3 A4 A5 A6 A7
  go_wp2_with (refine wpList_store_row rfl 30 _ _ rfl w.heap.size #[.int .i64 (n0 : Nat), .string ⟨⟨n1⟩⟩, .int .i64 (n2 : Nat), .int .i64 (n3 : Nat), .slice l6.a l6.n l6.c, .slice l8.a l8.n l8.c, .int .i64 0, .int .i64 0, .slice none 0 0, .int .i64 0, .slice none 0 0] rfl rfl 30 JB.zero.cells K8 S30 Z30 O30 ?_)
  refine bodyPost_ret (back58 _ _ w.heap.size #[.int .i64 (n0 : Nat), .string ⟨⟨n1⟩⟩, .int .i64 (n2 : Nat), .int .i64 (n3 : Nat), .slice l6.a l6.n l6.c, .slice l8.a l8.n l8.c, .int .i64 0, .int .i64 0, .slice none 0 0, .int .i64 0, .slice none 0 0] rfl HE.out.2.2.1 rfl) rfl ?_
  refine ⟨l6, l8, by rw [HP.out.1]; rfl, ?_⟩
  rw [HP.out.1]
  have h1 := HE.out
  rw [← HP.out.2.1, ← HP.out.2.2] at h1
  exact ⟨h1.1, h1.2.1, h1.2.2.2.1, h1.2.2.2.2⟩
end Go.Proofs.Ytnkkiepoljbhlaa
