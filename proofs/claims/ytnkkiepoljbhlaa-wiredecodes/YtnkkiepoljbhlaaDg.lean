/-
  The program's reader: job.
-/
import Derived.Test.YtnkkiepoljbhlaaDf
import Derived.Test.YtnkkiepoljbhlaaRec
namespace Go.Proofs.Ytnkkiepoljbhlaa
open Go.RowKit

/-- a job as it is read -/
structure JD where
  id : Nat
  tn : List UInt8
  pr : Nat
  rt : Nat
  pa : List Int
  tk : List V4
def pJob (st : Option (List UInt8)) : JD × Option (List UInt8) :=
  let a := pNum st
  let b := pTxt a.2
  let c := pNum b.2
  let d := pNum c.2
  let e := pUp 4 d.2
  let f := pRep pInt e.1 e.2
  let g := pUp 6 f.2
  let h := pRep pVec g.1 g.2
  (⟨a.1, b.1, c.1, d.1, f.1, h.1⟩, h.2)
def JD.jb (j : JD) (pa tk : SL) : JB := ⟨j.id, ⟨⟨j.tn⟩⟩, j.pr, j.rt, pa, tk, 0, 0, .nil, 0, .nil⟩
/-- while a job is read -/
structure JS (w0 w : World) (rb : Nat) (st : Option (List UInt8)) : Prop where
  rd : Rd w rb st
  lt : rb < w0.heap.size
  b0 : w.heap[w0.heap.size]? = some (.cells JB.zero.cells 30 (0, 0))
  kp : RdK rb w0 w
theorem JS.read {w0 w w' : World} {rb : Nat} {st st' : Option (List UInt8)} (h : JS w0 w rb st) (hr : Rd w' rb st') (k : RdK rb w w') : JS w0 w' rb st' := by
  have h0 := (Array.getElem?_eq_some_iff.1 h.b0).1
  have := h.lt
  exact ⟨hr, h.lt, (k.block _ h0 (by omega)).trans h.b0, h.kp.trans k⟩
theorem own_read {w w' : World} {rb B e size n : Nat} {v : Value} {xs : List Value} (h : w.ownsRow B e size v n xs) (hB : rb < B) (k : RdK rb w w') : w'.ownsRow B e size v n xs := by
  refine ⟨h.1, ?_⟩
  rcases h.2 with h1 | ⟨g, cap, cur, h1, h2, h3, h4⟩
  · exact .inl h1
  · exact .inr ⟨g, cap, cur, h1, h2, (k.block g (Array.getElem?_eq_some_iff.1 h3).1 (by omega)).trans h3, h4⟩
theorem own_put {w : World} {S B e size n : Nat} {v : Value} {xs : List Value} {cs : Array Value} (h : w.ownsRow B e size v n xs) (hB : S < B) : (w.setRow S cs).ownsRow B e size v n xs := by
  refine ⟨h.1, ?_⟩
  rcases h.2 with h1 | ⟨g, cap, cur, h1, h2, h3, h4⟩
  · exact .inl h1
  · exact .inr ⟨g, cap, cur, h1, h2, (setRow_other w S g cs (by omega)).trans h3, h4⟩
theorem rd_put {w : World} {rb k : Nat} {cs : Array Value} {st : Option (List UInt8)} (h : Rd w rb st) (hk : rb < k) : Rd (w.setRow k cs) rb st := by
  have hb : ∀ j, j ≠ k → (w.setRow k cs).heap[j]? = w.heap[j]? := fun j hj => setRow_other w k j cs hj
  cases st with
  | none => exact (hb rb (by omega)).trans h
  | some l =>
    obtain ⟨p, c, h1, h2⟩ := h
    refine ⟨p, c, (hb rb (by omega)).trans h1, ?_, h2.nc, h2.bl, h2.cm⟩
    rcases h2.ly with e | ⟨g, o, rfl, hrow⟩
    · exact .inl e
    · refine .inr ⟨g, o, rfl, fun i x hx => ?_⟩
      have h3 := (h2.bl _ rfl).1
      have h1 := hrow i x hx
      unfold World.cell? at h1 ⊢
      rw [hb g (by simp only at h3; omega)]
      exact h1
theorem rdk_put {rb k : Nat} {w0 w : World} {cs : Array Value} (h : RdK rb w0 w) (hk : w0.heap.size ≤ k) : RdK rb w0 (w.setRow k cs) :=
  ⟨h.os, h.tape, h.output, by rw [size_setRow]; exact h.size, fun j hj hn => (setRow_other w k j cs (by omega)).trans (h.block j hj hn)⟩
theorem JS.start {w : World} {rb : Nat} {st : Option (List UInt8)} (h : Rd w rb st) : JS w (w.alloc (Obj.cells JB.zero.cells 30)) rb st :=
  have hB : Below w.heap.size w (w.alloc (Obj.cells JB.zero.cells 30)) := (Below.refl _ w).alloc (Nat.le_refl _) _
  ⟨h.below hB, h.lt, new0, RdK.of_below hB⟩
theorem info30p : (Try.prog.info? 30).map (fun i => (i.zero, i.size)) = some (some (.agg JB.zero.cells), 11) := by kernel_rfl
theorem size30 : (Try.prog.info? 30).map (·.size) = some 11 := (zero_of_info info30p).2
theorem res58 : Try.f58.results = #[.cell 2 30] := rfl
theorem back58 (tmps : Array Value) (w : World) (g : Nat) (cs : Array Value) (hp : tmps.getD 2 undef = .pointer (some ⟨g, 0, none⟩)) (hg : w.heap[g]? = some (.cells cs 30 (0, 0))) (hs : cs.size = 11) : (results Try.f58 tmps).run Try.prog w = .ok (.agg cs) w :=
  results_cell_row res58 tmps w g 30 cs (0, 0) _ hp hg Try.underlying30 rfl (by rw [hs]; exact size30)
theorem sl_own {w w' : World} {rb e size n : Nat} {v : Value} {xs : List Value} {st : Option (List UInt8)} (h : LS w w' rb st e size v n xs) {B : Nat} (hB : B ≤ w.heap.size) : ∃ s : SL, v = .slice s.a s.n s.c ∧ w'.ownsRow B e size s.v n xs := by
  obtain ⟨s, rfl, -⟩ := slh_own h.own
  exact ⟨s, rfl, Joins.ownsRow_le h.own hB⟩
set_option maxHeartbeats 4000000 in
set_option maxRecDepth 100000 in
theorem job_any (w : World) (rb : Nat) (st : Option (List UInt8)) (h : Rd w rb st) : Calls Try.prog 58 #[.pointer (some ⟨rb, 0, none⟩)] w fun e w' => ∃ pa tk : SL, e = .returned (.agg ((pJob st).1.jb pa tk).cells) ∧ Hid (Rd w' rb (pJob st).2 ∧ RdK rb w w' ∧ w'.ownsRow w.heap.size 2 1 pa.v (pJob st).1.pa.length (intsV (pJob st).1.pa) ∧ w'.ownsRow w.heap.size 23 4 tk.v (pJob st).1.tk.length (flat (pJob st).1.tk)) := by
  have H56 : ∀ W s, JS w W rb s → Calls Try.prog 56 #[.pointer (some ⟨rb, 0, none⟩)] W fun e w' => e = .returned (.int .i64 ((pNum s).1 : Nat)) ∧ Hid (JS w w' rb (pNum s).2 ∧ RdK rb W w') := fun W s hv => (number_any W rb s hv.rd).mono (by rintro e w' ⟨h1, h2⟩; exact ⟨h1, hv.read h2.out.1 h2.out.2, h2.out.2⟩)
  have H55 : ∀ W s, JS w W rb s → Calls Try.prog 55 #[.pointer (some ⟨rb, 0, none⟩)] W fun e w' => e = .returned (.string ⟨⟨(pTxt s).1⟩⟩) ∧ Hid (JS w w' rb (pTxt s).2 ∧ RdK rb W w') := fun W s hv => (text_any W rb s hv.rd).mono (by rintro e w' ⟨h1, h2⟩; exact ⟨h1, hv.read h2.out.1 h2.out.2, h2.out.2⟩)
  have H60 : ∀ (m : Nat) W s, JS w W rb s → Calls Try.prog 60 #[.pointer (some ⟨rb, 0, none⟩), .int .i64 m] W fun e w' => e = .returned (.int .i64 ((pUp m s).1 : Nat)) ∧ Hid (JS w w' rb (pUp m s).2 ∧ RdK rb W w') := fun m W s hv => (upTo_any W rb m s hv.rd).mono (by rintro e w' ⟨h1, h2⟩; exact ⟨h1, hv.read h2.out.1 h2.out.2, h2.out.2⟩)
  have H73 : ∀ (n : Nat) W s, n < 1048576 → JS w W rb s → Calls Try.prog 73 #[.int .i64 n, .func (.func 56) #[.pointer (some ⟨rb, 0, none⟩)] #[]] W fun e w' => ∃ l : SL, e = .returned (.slice l.a l.n l.c) ∧ Hid (JS w w' rb (pRep pInt n s).2 ∧ RdK rb W w' ∧ w'.ownsRow (w.heap.size + 1) 2 1 l.v n (intsV (pRep pInt n s).1)) := fun n W s hn hv => (list_int W rb n s hv.rd hn).mono (by
    rintro e w' ⟨v, rfl, h2⟩
    have := (Array.getElem?_eq_some_iff.1 hv.b0).1
    obtain ⟨l, rfl, ho⟩ := sl_own h2.out (B := w.heap.size + 1) (by omega)
    exact ⟨l, rfl, hv.read h2.out.rd h2.out.kp, h2.out.kp, ho⟩)
  have H74 : ∀ (n : Nat) W s, n < 1048576 → JS w W rb s → Calls Try.prog 74 #[.int .i64 n, .func (.func 57) #[.pointer (some ⟨rb, 0, none⟩)] #[]] W fun e w' => ∃ l : SL, e = .returned (.slice l.a l.n l.c) ∧ Hid (JS w w' rb (pRep pVec n s).2 ∧ RdK rb W w' ∧ w'.ownsRow (w.heap.size + 1) 23 4 l.v n (flat (pRep pVec n s).1)) := fun n W s hn hv => (list_vec W rb n s hv.rd hn).mono (by
    rintro e w' ⟨v, rfl, h2⟩
    have := (Array.getElem?_eq_some_iff.1 hv.b0).1
    obtain ⟨l, rfl, ho⟩ := sl_own h2.out (B := w.heap.size + 1) (by omega)
    exact ⟨l, rfl, hv.read h2.out.rd h2.out.kp, h2.out.kp, ho⟩)
  have HS : Hid (JS w _ rb st) := JS.start h
  obtain ⟨n0, s1, e0⟩ : ∃ n s, pNum st = (n, s) := ⟨_, _, rfl⟩
  obtain ⟨n1, s2, e1⟩ : ∃ n s, pTxt s1 = (n, s) := ⟨_, _, rfl⟩
  obtain ⟨n2, s3, e2⟩ : ∃ n s, pNum s2 = (n, s) := ⟨_, _, rfl⟩
  obtain ⟨n3, s4, e3⟩ : ∃ n s, pNum s3 = (n, s) := ⟨_, _, rfl⟩
  obtain ⟨n4, s5, e4⟩ : ∃ n s, pUp 4 s4 = (n, s) := ⟨_, _, rfl⟩
  obtain ⟨l5, s6, e5⟩ : ∃ l s, pRep pInt n4 s5 = (l, s) := ⟨_, _, rfl⟩
  obtain ⟨n6, s7, e6⟩ : ∃ n s, pUp 6 s6 = (n, s) := ⟨_, _, rfl⟩
  obtain ⟨l7, s8, e7⟩ : ∃ l s, pRep pVec n6 s7 = (l, s) := ⟨_, _, rfl⟩
  have q4 : n4 ≤ 4 := by have := pUp_le (most := 4) (st := s4); rw [e4] at this; exact this
  have q6 : n6 ≤ 6 := by have := pUp_le (most := 6) (st := s6); rw [e6] at this; exact this
  have HP : Hid (pJob st = (⟨n0, n1, n2, n3, l5, l7⟩, s8) ∧ l5.length = n4 ∧ l7.length = n6) := by
    refine ⟨?_, by have := pRep_length pInt n4 s5; rw [e5] at this; exact this, by have := pRep_length pVec n6 s7; rw [e7] at this; exact this⟩
    unfold pJob
    simp only [e0, e1, e2, e3, e4, e5, e6, e7]
  have A0 : Hid (∀ W, JS w W rb st → _) := fun W => H56 W st
  have A1 : Hid (∀ W, JS w W rb s1 → _) := fun W => H55 W s1
  have A2 : Hid (∀ W, JS w W rb s2 → _) := fun W => H56 W s2
  have A3 : Hid (∀ W, JS w W rb s3 → _) := fun W => H56 W s3
  have A4 : Hid (∀ W, JS w W rb s4 → _) := fun W => H60 4 W s4
  have A5 : Hid (∀ W, JS w W rb s5 → _) := fun W => H73 n4 W s5 (by omega)
  have A6 : Hid (∀ W, JS w W rb s6 → _) := fun W => H60 6 W s6
  have A7 : Hid (∀ W, JS w W rb s7 → _) := fun W => H74 n6 W s7 (by omega)
  rw [e0] at A0; rw [e1] at A1; rw [e2] at A2; rw [e3] at A3; rw [e4] at A4; rw [e5] at A5; rw [e6] at A6; rw [e7] at A7
  clear h H55 H56 H60 H73 H74 e0 e1 e2 e3 e4 e5 e6 e7 q4 q6
  go_enter Try.func58, Try.ntmps58
  go_wp2_with (first
    | (go_at_call 56; refine (A0.out _ HS.out).mono ?_; rintro e w1 ⟨rfl, k1⟩)
    | (go_at_call 55; refine (A1.out _ k1.out.1).mono ?_; rintro e w2 ⟨rfl, k2⟩)
    | (go_at_call 56; refine (A2.out _ k2.out.1).mono ?_; rintro e w3 ⟨rfl, k3⟩)
    | (go_at_call 56; refine (A3.out _ k3.out.1).mono ?_; rintro e w4 ⟨rfl, k4⟩)
    | (go_at_call 60; refine (A4.out _ k4.out.1).mono ?_; rintro e w5 ⟨rfl, k5⟩))
  refine (A5.out _ k5.out.1).mono ?_
  rintro e w6 ⟨l6, rfl, k6⟩
  go_wp2_with (go_at_call 60; refine (A6.out _ k6.out.1).mono ?_; rintro e w7 ⟨rfl, k7⟩)
  refine (A7.out _ k7.out.1).mono ?_
  rintro e w8 ⟨l8, rfl, k8⟩
  have K8 := k8.out.1.b0
  have S30 : (Try.prog.info? 30).map (·.size) = some (#[.int .i64 (n0 : Nat), .string ⟨⟨n1⟩⟩, .int .i64 (n2 : Nat), .int .i64 (n3 : Nat), .slice l6.a l6.n l6.c, .slice l8.a l8.n l8.c, .int .i64 0, .int .i64 0, .slice none 0 0, .int .i64 0, .slice none 0 0] : Array Value).size := size30
  have O30 : (#[.int .i64 (n0 : Nat), .string ⟨⟨n1⟩⟩, .int .i64 (n2 : Nat), .int .i64 (n3 : Nat), .slice l6.a l6.n l6.c, .slice l8.a l8.n l8.c, .int .i64 0, .int .i64 0, .slice none 0 0, .int .i64 0, .slice none 0 0] : Array Value).all (·.oneCell') = true := by simp [Value.oneCell']
  have Z30 : JB.zero.cells.size = (#[.int .i64 (n0 : Nat), .string ⟨⟨n1⟩⟩, .int .i64 (n2 : Nat), .int .i64 (n3 : Nat), .slice l6.a l6.n l6.c, .slice l8.a l8.n l8.c, .int .i64 0, .int .i64 0, .slice none 0 0, .int .i64 0, .slice none 0 0] : Array Value).size := by rfl
  have HE : Hid (Rd (w8.setRow w.heap.size #[.int .i64 (n0 : Nat), .string ⟨⟨n1⟩⟩, .int .i64 (n2 : Nat), .int .i64 (n3 : Nat), .slice l6.a l6.n l6.c, .slice l8.a l8.n l8.c, .int .i64 0, .int .i64 0, .slice none 0 0, .int .i64 0, .slice none 0 0]) rb s8 ∧ RdK rb w (w8.setRow w.heap.size #[.int .i64 (n0 : Nat), .string ⟨⟨n1⟩⟩, .int .i64 (n2 : Nat), .int .i64 (n3 : Nat), .slice l6.a l6.n l6.c, .slice l8.a l8.n l8.c, .int .i64 0, .int .i64 0, .slice none 0 0, .int .i64 0, .slice none 0 0]) ∧ (w8.setRow w.heap.size #[.int .i64 (n0 : Nat), .string ⟨⟨n1⟩⟩, .int .i64 (n2 : Nat), .int .i64 (n3 : Nat), .slice l6.a l6.n l6.c, .slice l8.a l8.n l8.c, .int .i64 0, .int .i64 0, .slice none 0 0, .int .i64 0, .slice none 0 0]).heap[w.heap.size]? = some (.cells #[.int .i64 (n0 : Nat), .string ⟨⟨n1⟩⟩, .int .i64 (n2 : Nat), .int .i64 (n3 : Nat), .slice l6.a l6.n l6.c, .slice l8.a l8.n l8.c, .int .i64 0, .int .i64 0, .slice none 0 0, .int .i64 0, .slice none 0 0] 30 (0, 0)) ∧ (w8.setRow w.heap.size #[.int .i64 (n0 : Nat), .string ⟨⟨n1⟩⟩, .int .i64 (n2 : Nat), .int .i64 (n3 : Nat), .slice l6.a l6.n l6.c, .slice l8.a l8.n l8.c, .int .i64 0, .int .i64 0, .slice none 0 0, .int .i64 0, .slice none 0 0]).ownsRow w.heap.size 2 1 l6.v n4 (intsV l5) ∧ (w8.setRow w.heap.size #[.int .i64 (n0 : Nat), .string ⟨⟨n1⟩⟩, .int .i64 (n2 : Nat), .int .i64 (n3 : Nat), .slice l6.a l6.n l6.c, .slice l8.a l8.n l8.c, .int .i64 0, .int .i64 0, .slice none 0 0, .int .i64 0, .slice none 0 0]).ownsRow w.heap.size 23 4 l8.v n6 (flat l7)) := by
    have hlt := k8.out.1.lt
    refine ⟨rd_put k8.out.1.rd hlt, rdk_put k8.out.1.kp (Nat.le_refl _), setRow_heap w8 _ _ _ 30 (0, 0) K8, ?_, ?_⟩
    · exact Joins.ownsRow_le (own_put (own_read k6.out.2.2 (by omega) (k7.out.2.trans k8.out.2.1)) (Nat.lt_succ_self _)) (Nat.le_succ _)
    · exact Joins.ownsRow_le (own_put k8.out.2.2 (Nat.lt_succ_self _)) (Nat.le_succ _)
  clear A0 A1 A2 A3 A4 A5 A6 A7
  go_wp2_with (refine wpList_store_row rfl 30 _ _ rfl w.heap.size #[.int .i64 (n0 : Nat), .string ⟨⟨n1⟩⟩, .int .i64 (n2 : Nat), .int .i64 (n3 : Nat), .slice l6.a l6.n l6.c, .slice l8.a l8.n l8.c, .int .i64 0, .int .i64 0, .slice none 0 0, .int .i64 0, .slice none 0 0] rfl rfl 30 JB.zero.cells K8 S30 Z30 O30 ?_)
  refine bodyPost_ret (back58 _ _ w.heap.size #[.int .i64 (n0 : Nat), .string ⟨⟨n1⟩⟩, .int .i64 (n2 : Nat), .int .i64 (n3 : Nat), .slice l6.a l6.n l6.c, .slice l8.a l8.n l8.c, .int .i64 0, .int .i64 0, .slice none 0 0, .int .i64 0, .slice none 0 0] rfl HE.out.2.2.1 rfl) rfl ?_
  refine ⟨l6, l8, by rw [HP.out.1]; rfl, ?_⟩
  rw [HP.out.1]
  have h1 := HE.out
  rw [← HP.out.2.1, ← HP.out.2.2] at h1
  exact ⟨h1.1, h1.2.1, h1.2.2.2.1, h1.2.2.2.2⟩
end Go.Proofs.Ytnkkiepoljbhlaa
