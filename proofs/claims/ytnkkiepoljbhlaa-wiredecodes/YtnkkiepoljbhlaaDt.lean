/-
  The document's plain, of the kinds without lists (by tools/mkdt.py).
-/
import Derived.Test.YtnkkiepoljbhlaaDs
import Derived.Test.YtnkkiepoljbhlaaRec
import Derived.Great.BuildSlice
namespace Go.Proofs.Ytnkkiepoljbhlaa
open Go.RowKit

theorem size32p (p : PL) : (Try.prog.info? 32).map (·.size) = some p.cells.size := by
  have : (Try.prog.info? 32).map (·.size) = some 27 := by kernel_rfl
  exact this
theorem res34 : Try.f34.results = #[.cell 4 32] := rfl
theorem back34 (p : PL) (tmps : Array Value) (w : World) (g : Nat) (hp : tmps.getD 4 undef = .pointer (some ⟨g, 0, none⟩)) (hg : w.heap[g]? = some (.cells p.cells 32 (0, 0))) : (results Try.f34 tmps).run Try.prog w = .ok (.agg p.cells) w :=
  results_cell_row res34 tmps w g 32 p.cells (0, 0) _ hp hg Try.underlying32 rfl (size32p p)
theorem PL.cells_size (p : PL) : p.cells.size = 27 := rfl
theorem PL.cells_one (p : PL) : p.cells.all (·.oneCell') = true := by simp [PL.cells, SL.v, Value.oneCell']
section
variable {w w' W : World} {rb k k' a : Nat} {l : List UInt8} {bad bd bd' : Bool} {p : PL}
theorem rq61 (h : RQ w W rb l k bd p) : Calls Try.prog 61 #[.pointer (some ⟨rb, 0, none⟩)] W fun e w' => ∃ (s : List UInt8) (k' : Nat) (bd' : Bool), e = .returned (.string ⟨⟨s⟩⟩) ∧ Hid (RQ w w' rb l k' bd' p ∧ OneX txtD l k bd s k' bd') := (rtext_any W rb k l bd h.rd h.le).mono (by
  rintro e w' ⟨m, k', bd', rfl, h2⟩
  obtain ⟨q2, q3, q4, q5, q6⟩ := h2.out
  exact ⟨m, k', bd', rfl, h.read q4 q3 q5, q6⟩)
theorem rq62 (h : RQ w W rb l k bd p) : Calls Try.prog 62 #[.pointer (some ⟨rb, 0, none⟩)] W fun e w' => ∃ (m k' : Nat) (bd' : Bool), e = .returned (.int .i64 m) ∧ Hid (RQ w w' rb l k' bd' p ∧ OneX (numD 7) l k bd m k' bd' ∧ m < 562949953421312) := (rnumber_any W rb k l bd h.rd h.le).mono (by
  rintro e w' ⟨m, k', bd', rfl, h2⟩
  obtain ⟨q1, q2, q3, q4, q5, q6⟩ := h2.out
  exact ⟨m, k', bd', rfl, h.read q4 q3 q5, OneX.num q6, q1⟩)
theorem rq63 (h : RQ w W rb l k bd p) : Calls Try.prog 63 #[.pointer (some ⟨rb, 0, none⟩)] W fun e w' => ∃ (v : V4) (k' : Nat) (bd' : Bool), e = .returned (.agg #[.int .i64 v.a, .int .i64 v.b, .int .i64 v.c, .int .i64 v.d]) ∧ Hid (RQ w w' rb l k' bd' p ∧ OneX vecD l k bd v k' bd') := (rvector_any W rb k l bd h.rd h.le).mono (by
  rintro e w' ⟨m, k', bd', rfl, h2⟩
  obtain ⟨q2, q3, q4, q5, q6⟩ := h2.out
  exact ⟨m, k', bd', rfl, h.read q4 q3 q5, OneX.vec q6⟩)
/-- what plain leaves, beside what it read -/
theorem RQ.fin (h : RQ w W rb l k bd p) : (W.setRow w.heap.size p.cells).heap[w.heap.size]? = some (.cells p.cells 32 (0, 0)) ∧ k ≤ l.length ∧ Rf (W.setRow w.heap.size p.cells) rb l k bd ∧ RdK rb w (W.setRow w.heap.size p.cells) := ⟨setRow_heap W _ _ _ 32 (0, 0) h.b0, h.le, rf_row h.rd h.lt, rdk_put h.kp (Nat.le_refl _)⟩
/-- plain's answer: the box filled with what a strict reader reads, or bad -/
def PlR {α : Type} (w : World) (rb : Nat) (l : List UInt8) (at0 : Nat) (bad : Bool) (D : List UInt8 → Option (α × List UInt8)) (P : α → PL) (e : Ending) (w' : World) : Prop := ∃ (x : α) (k : Nat) (bad' : Bool), e = .returned (.agg (P x).cells) ∧ k ≤ l.length ∧ Rf w' rb l k bad' ∧ RdK rb w w' ∧ OneX D l at0 bad x k bad'
theorem RQ.plr {α : Type} {w W : World} {rb k at0 : Nat} {l : List UInt8} {bad bd : Bool} {p : PL} {D : List UInt8 → Option (α × List UInt8)} {P : α → PL} (h : Hid (RQ w W rb l k bd p)) (x : α) (hx : p = P x) (ho : OneX D l at0 bad x k bd) : PlR w rb l at0 bad D P (.returned (.agg p.cells)) (W.setRow w.heap.size p.cells) := by
  subst hx
  exact ⟨x, k, bd, rfl, h.out.le, h.out.fin.2.2.1, h.out.fin.2.2.2, ho⟩
/-- no field -/
def noD (l : List UInt8) : Option (Unit × List UInt8) := some ((), l)
theorem OneX.no {l : List UInt8} {a : Nat} {bad : Bool} : OneX noD l a bad () a bad := by
  cases bad with
  | true => exact .inr ⟨rfl, .inl rfl⟩
  | false => exact .inl ⟨rfl, rfl, rfl⟩
theorem built32 (kd : Int) : Try.prog.built 32 [(0, .int .i64 kd)] = some (PL.cells { PL.zero with kind := kd }) := by kernel_rfl
theorem two_heap (w : World) (A B : Array Value) : ((w.alloc (Obj.cells A 32)).alloc (Obj.cells B 32)).heap[w.heap.size + 1]? = some (.cells B 32 (0, 0)) := by
  show (Array.push _ _)[_]? = _
  rw [Array.getElem?_push]
  exact if_pos (by simp)
theorem RQ.begun {w : World} {rb k : Nat} {l : List UInt8} {bad : Bool} {p : PL} (h : Rf w rb l k bad) (hk : k ≤ l.length) : RQ w (((w.alloc (Obj.cells PL.zero.cells 32)).alloc (Obj.cells PL.zero.cells 32)).setRow (w.heap.size + 1) p.cells) rb l k bad p := by
  have h1 := RQ.start (p := PL.zero) h hk
  have hb : ∀ j, j ≠ w.heap.size + 1 → (((w.alloc (Obj.cells PL.zero.cells 32)).alloc (Obj.cells PL.zero.cells 32)).setRow (w.heap.size + 1) p.cells).heap[j]? = _ := fun j hj => setRow_other _ _ j p.cells hj
  exact ⟨rf_row h1.rd (by have := h1.lt; omega), hk, h.lt, (hb _ (by omega)).trans h1.b0, setRow_heap _ _ _ _ 32 (0, 0) h1.b1, rdk_put h1.kp (by omega)⟩
theorem PL.at1 (p : PL) : p.cells[1]? = some (.string p.tn) := rfl
theorem PL.at2 (p : PL) : p.cells[2]? = some (.int .i64 p.tw) := rfl
theorem PL.at3 (p : PL) : p.cells[3]? = some (.int .i64 p.q0) := rfl
theorem PL.at4 (p : PL) : p.cells[4]? = some (.int .i64 p.q1) := rfl
theorem PL.at5 (p : PL) : p.cells[5]? = some (.int .i64 p.q2) := rfl
theorem PL.at6 (p : PL) : p.cells[6]? = some (.int .i64 p.q3) := rfl
theorem PL.at7 (p : PL) : p.cells[7]? = some (.string p.nd) := rfl
theorem PL.at8 (p : PL) : p.cells[8]? = some (.int .i64 p.ep) := rfl
theorem PL.at9 (p : PL) : p.cells[9]? = some (.int .i64 p.v0) := rfl
theorem PL.at10 (p : PL) : p.cells[10]? = some (.int .i64 p.v1) := rfl
theorem PL.at11 (p : PL) : p.cells[11]? = some (.int .i64 p.v2) := rfl
theorem PL.at12 (p : PL) : p.cells[12]? = some (.int .i64 p.v3) := rfl
theorem PL.at24 (p : PL) : p.cells[24]? = some (.int .i64 p.id) := rfl
theorem PL.at26 (p : PL) : p.cells[26]? = some (.int .i64 p.st) := rfl
theorem RQ.tn (h : RQ w W rb l k bd p) (s : ByteArray) : RQ w (W.setCell ⟨w.heap.size + 1, 1, none⟩ (.string s)) rb l k bd { p with tn := s } := h.set _ rfl
theorem RQ.tw (h : RQ w W rb l k bd p) (n : Nat) : RQ w (W.setCell ⟨w.heap.size + 1, 2, none⟩ (.int .i64 n)) rb l k bd { p with tw := n } := h.set _ rfl
theorem RQ.nd (h : RQ w W rb l k bd p) (s : ByteArray) : RQ w (W.setCell ⟨w.heap.size + 1, 7, none⟩ (.string s)) rb l k bd { p with nd := s } := h.set _ rfl
theorem RQ.ep (h : RQ w W rb l k bd p) (n : Nat) : RQ w (W.setCell ⟨w.heap.size + 1, 8, none⟩ (.int .i64 n)) rb l k bd { p with ep := n } := h.set _ rfl
theorem RQ.id (h : RQ w W rb l k bd p) (n : Nat) : RQ w (W.setCell ⟨w.heap.size + 1, 24, none⟩ (.int .i64 n)) rb l k bd { p with id := n } := h.set _ rfl
theorem RQ.st (h : RQ w W rb l k bd p) (n : Nat) : RQ w (W.setCell ⟨w.heap.size + 1, 26, none⟩ (.int .i64 n)) rb l k bd { p with st := n } := h.set _ rfl
theorem RQ.q (h : RQ w W rb l k bd p) (v : V4) : RQ w ((((W.setCell ⟨w.heap.size + 1, 3, none⟩ (.int .i64 v.a)).setCell ⟨w.heap.size + 1, 4, none⟩ (.int .i64 v.b)).setCell ⟨w.heap.size + 1, 5, none⟩ (.int .i64 v.c)).setCell ⟨w.heap.size + 1, 6, none⟩ (.int .i64 v.d)) rb l k bd { p with q0 := v.a, q1 := v.b, q2 := v.c, q3 := v.d } := h.set4 (p1 := { p with q0 := v.a }) (p2 := { p with q0 := v.a, q1 := v.b }) (p3 := { p with q0 := v.a, q1 := v.b, q2 := v.c }) rfl rfl rfl rfl
theorem RQ.v (h : RQ w W rb l k bd p) (v : V4) : RQ w ((((W.setCell ⟨w.heap.size + 1, 9, none⟩ (.int .i64 v.a)).setCell ⟨w.heap.size + 1, 10, none⟩ (.int .i64 v.b)).setCell ⟨w.heap.size + 1, 11, none⟩ (.int .i64 v.c)).setCell ⟨w.heap.size + 1, 12, none⟩ (.int .i64 v.d)) rb l k bd { p with v0 := v.a, v1 := v.b, v2 := v.c, v3 := v.d } := h.set4 (p1 := { p with v0 := v.a }) (p2 := { p with v0 := v.a, v1 := v.b }) (p3 := { p with v0 := v.a, v1 := v.b, v2 := v.c }) rfl rfl rfl rfl
end
set_option maxHeartbeats 4000000 in
set_option maxRecDepth 100000 in
theorem plain1 (w : World) (rb at0 : Nat) (l : List UInt8) (bad : Bool) (h : Rf w rb l at0 bad) (ha : at0 ≤ l.length) : Calls Try.prog 34 #[.pointer (some ⟨rb, 0, none⟩), .int .i64 1] w fun e w' => PlR w rb l at0 bad (bD txtD (bD (numD 7) vecD)) (fun x : List UInt8 × Nat × V4 => { PL.zero with kind := 1, tn := ⟨⟨x.1⟩⟩, tw := (x.2.1 : Nat), q0 := x.2.2.a, q1 := x.2.2.b, q2 := x.2.2.c, q3 := x.2.2.d }) e w' := by
  obtain ⟨p0, hp⟩ : ∃ p : PL, Hid (p = { PL.zero with kind := 1 }) := ⟨_, rfl⟩

  go_enter Try.func34, Try.ntmps34
  go_upto_region 2 with (first
    | refine wpList_buildTo rfl 32 _ rfl (some 9) rfl p0.cells (by rw [hp.out]; kernel_rfl) ?_
    | refine wpList_store_rowTo rfl 32 _ _ rfl rfl (w.heap.size + 1) p0.cells rfl rfl 32 _ (two_heap w _ _) (size32p p0) rfl (PL.cells_one p0) ?_)
  refine (?_ : ∀ W, Hid (RQ w W rb l at0 bad p0) → Code.wp Try.prog _ _ _ W) _ (RQ.begun h ha)
  clear h ha
  intro W HS
  go_upto_region 5 with (go_at_call 61; refine (rq61 HS.out).mono ?_; rintro e w1 ⟨x0, a0, d0, rfl, k0⟩; have c1 := k0.out.1.at 1 _ (PL.at1 _); have f1 := k0.out.1.fz 1)
  have K0 : Hid (RQ w _ rb l a0 d0 _) := k0.out.1.tn ⟨⟨x0⟩⟩
  clear c1 f1
  obtain ⟨p1, hp1⟩ : ∃ q : PL, Hid (q = { p0 with tn := ⟨⟨x0⟩⟩ }) := ⟨_, rfl⟩
  rw [← hp1.out] at K0
  go_upto_region 6 with (go_at_call 62; refine (rq62 K0.out).mono ?_; rintro e w2 ⟨x1, a1, d1, rfl, k1⟩; have c2 := k1.out.1.at 2 _ (PL.at2 _); have f2 := k1.out.1.fz 2)
  have K1 : Hid (RQ w _ rb l a1 d1 _) := k1.out.1.tw x1
  clear c2 f2
  obtain ⟨p2, hp2⟩ : ∃ q : PL, Hid (q = { p1 with tw := (x1 : Nat) }) := ⟨_, rfl⟩
  rw [← hp2.out] at K1
  go_upto_region 32 with (go_at_call 63; refine (rq63 K1.out).mono ?_; rintro e w3 ⟨x2, a2, d2, rfl, k2⟩; have c3 := k2.out.1.at 3 _ (PL.at3 _); have f3 := k2.out.1.fz 3; have c4 := k2.out.1.at 4 _ (PL.at4 _); have f4 := k2.out.1.fz 4; have c5 := k2.out.1.at 5 _ (PL.at5 _); have f5 := k2.out.1.fz 5; have c6 := k2.out.1.at 6 _ (PL.at6 _); have f6 := k2.out.1.fz 6)
  have K2 : Hid (RQ w _ rb l a2 d2 _) := k2.out.1.q x2
  clear c3 f3 c4 f4 c5 f5 c6 f6
  obtain ⟨p3, hp3⟩ : ∃ q : PL, Hid (q = { p2 with q0 := x2.a, q1 := x2.b, q2 := x2.c, q3 := x2.d }) := ⟨_, rfl⟩
  rw [← hp3.out] at K2
  have HF : Hid _ := K2.out.fin
  go_wp2_with (first
    | refine wpList_load_row rfl 32 _ rfl (w.heap.size + 1) rfl 32 p3.cells (0, 0) _ K2.out.b1 Try.underlying32 rfl (size32p _) ?_
    | refine wpList_store_row rfl 32 _ _ rfl w.heap.size p3.cells rfl rfl 32 PL.zero.cells K2.out.b0 (size32p _) rfl (PL.cells_one _) ?_)
  refine bodyPost_ret (back34 _ _ _ w.heap.size rfl HF.out.1) rfl ?_
  exact RQ.plr K2 (x0, x1, x2) (by rw [hp3.out]; rw [hp2.out]; rw [hp1.out]; rw [hp.out]) (k0.out.2.pair (k1.out.2.1.pair k2.out.2))
set_option maxHeartbeats 4000000 in
set_option maxRecDepth 100000 in
theorem plain2 (w : World) (rb at0 : Nat) (l : List UInt8) (bad : Bool) (h : Rf w rb l at0 bad) (ha : at0 ≤ l.length) : Calls Try.prog 34 #[.pointer (some ⟨rb, 0, none⟩), .int .i64 2] w fun e w' => PlR w rb l at0 bad (bD txtD (bD (numD 7) vecD)) (fun x : List UInt8 × Nat × V4 => { PL.zero with kind := 2, nd := ⟨⟨x.1⟩⟩, ep := (x.2.1 : Nat), v0 := x.2.2.a, v1 := x.2.2.b, v2 := x.2.2.c, v3 := x.2.2.d }) e w' := by
  obtain ⟨p0, hp⟩ : ∃ p : PL, Hid (p = { PL.zero with kind := 2 }) := ⟨_, rfl⟩

  go_enter Try.func34, Try.ntmps34
  go_upto_region 2 with (first
    | refine wpList_buildTo rfl 32 _ rfl (some 9) rfl p0.cells (by rw [hp.out]; kernel_rfl) ?_
    | refine wpList_store_rowTo rfl 32 _ _ rfl rfl (w.heap.size + 1) p0.cells rfl rfl 32 _ (two_heap w _ _) (size32p p0) rfl (PL.cells_one p0) ?_)
  refine (?_ : ∀ W, Hid (RQ w W rb l at0 bad p0) → Code.wp Try.prog _ _ _ W) _ (RQ.begun h ha)
  clear h ha
  intro W HS
  go_upto_region 9 with (go_at_call 61; refine (rq61 HS.out).mono ?_; rintro e w1 ⟨x0, a0, d0, rfl, k0⟩; have c7 := k0.out.1.at 7 _ (PL.at7 _); have f7 := k0.out.1.fz 7)
  have K0 : Hid (RQ w _ rb l a0 d0 _) := k0.out.1.nd ⟨⟨x0⟩⟩
  clear c7 f7
  obtain ⟨p1, hp1⟩ : ∃ q : PL, Hid (q = { p0 with nd := ⟨⟨x0⟩⟩ }) := ⟨_, rfl⟩
  rw [← hp1.out] at K0
  go_upto_region 10 with (go_at_call 62; refine (rq62 K0.out).mono ?_; rintro e w2 ⟨x1, a1, d1, rfl, k1⟩; have c8 := k1.out.1.at 8 _ (PL.at8 _); have f8 := k1.out.1.fz 8)
  have K1 : Hid (RQ w _ rb l a1 d1 _) := k1.out.1.ep x1
  clear c8 f8
  obtain ⟨p2, hp2⟩ : ∃ q : PL, Hid (q = { p1 with ep := (x1 : Nat) }) := ⟨_, rfl⟩
  rw [← hp2.out] at K1
  go_upto_region 32 with (go_at_call 63; refine (rq63 K1.out).mono ?_; rintro e w3 ⟨x2, a2, d2, rfl, k2⟩; have c9 := k2.out.1.at 9 _ (PL.at9 _); have f9 := k2.out.1.fz 9; have c10 := k2.out.1.at 10 _ (PL.at10 _); have f10 := k2.out.1.fz 10; have c11 := k2.out.1.at 11 _ (PL.at11 _); have f11 := k2.out.1.fz 11; have c12 := k2.out.1.at 12 _ (PL.at12 _); have f12 := k2.out.1.fz 12)
  have K2 : Hid (RQ w _ rb l a2 d2 _) := k2.out.1.v x2
  clear c9 f9 c10 f10 c11 f11 c12 f12
  obtain ⟨p3, hp3⟩ : ∃ q : PL, Hid (q = { p2 with v0 := x2.a, v1 := x2.b, v2 := x2.c, v3 := x2.d }) := ⟨_, rfl⟩
  rw [← hp3.out] at K2
  have HF : Hid _ := K2.out.fin
  go_wp2_with (first
    | refine wpList_load_row rfl 32 _ rfl (w.heap.size + 1) rfl 32 p3.cells (0, 0) _ K2.out.b1 Try.underlying32 rfl (size32p _) ?_
    | refine wpList_store_row rfl 32 _ _ rfl w.heap.size p3.cells rfl rfl 32 PL.zero.cells K2.out.b0 (size32p _) rfl (PL.cells_one _) ?_)
  refine bodyPost_ret (back34 _ _ _ w.heap.size rfl HF.out.1) rfl ?_
  exact RQ.plr K2 (x0, x1, x2) (by rw [hp3.out]; rw [hp2.out]; rw [hp1.out]; rw [hp.out]) (k0.out.2.pair (k1.out.2.1.pair k2.out.2))
set_option maxHeartbeats 4000000 in
set_option maxRecDepth 100000 in
theorem plain3 (w : World) (rb at0 : Nat) (l : List UInt8) (bad : Bool) (h : Rf w rb l at0 bad) (ha : at0 ≤ l.length) : Calls Try.prog 34 #[.pointer (some ⟨rb, 0, none⟩), .int .i64 3] w fun e w' => PlR w rb l at0 bad txtD (fun x : List UInt8 => { PL.zero with kind := 3, nd := ⟨⟨x⟩⟩ }) e w' := by
  obtain ⟨p0, hp⟩ : ∃ p : PL, Hid (p = { PL.zero with kind := 3 }) := ⟨_, rfl⟩

  go_enter Try.func34, Try.ntmps34
  go_upto_region 2 with (first
    | refine wpList_buildTo rfl 32 _ rfl (some 9) rfl p0.cells (by rw [hp.out]; kernel_rfl) ?_
    | refine wpList_store_rowTo rfl 32 _ _ rfl rfl (w.heap.size + 1) p0.cells rfl rfl 32 _ (two_heap w _ _) (size32p p0) rfl (PL.cells_one p0) ?_)
  refine (?_ : ∀ W, Hid (RQ w W rb l at0 bad p0) → Code.wp Try.prog _ _ _ W) _ (RQ.begun h ha)
  clear h ha
  intro W HS
  go_upto_region 32 with (go_at_call 61; refine (rq61 HS.out).mono ?_; rintro e w1 ⟨x0, a0, d0, rfl, k0⟩; have c7 := k0.out.1.at 7 _ (PL.at7 _); have f7 := k0.out.1.fz 7)
  have K0 : Hid (RQ w _ rb l a0 d0 _) := k0.out.1.nd ⟨⟨x0⟩⟩
  clear c7 f7
  obtain ⟨p1, hp1⟩ : ∃ q : PL, Hid (q = { p0 with nd := ⟨⟨x0⟩⟩ }) := ⟨_, rfl⟩
  rw [← hp1.out] at K0
  have HF : Hid _ := K0.out.fin
  go_wp2_with (first
    | refine wpList_load_row rfl 32 _ rfl (w.heap.size + 1) rfl 32 p1.cells (0, 0) _ K0.out.b1 Try.underlying32 rfl (size32p _) ?_
    | refine wpList_store_row rfl 32 _ _ rfl w.heap.size p1.cells rfl rfl 32 PL.zero.cells K0.out.b0 (size32p _) rfl (PL.cells_one _) ?_)
  refine bodyPost_ret (back34 _ _ _ w.heap.size rfl HF.out.1) rfl ?_
  exact RQ.plr K0 x0 (by rw [hp1.out]; rw [hp.out]) k0.out.2
set_option maxHeartbeats 4000000 in
set_option maxRecDepth 100000 in
theorem plain4 (w : World) (rb at0 : Nat) (l : List UInt8) (bad : Bool) (h : Rf w rb l at0 bad) (ha : at0 ≤ l.length) : Calls Try.prog 34 #[.pointer (some ⟨rb, 0, none⟩), .int .i64 4] w fun e w' => PlR w rb l at0 bad txtD (fun x : List UInt8 => { PL.zero with kind := 4, nd := ⟨⟨x⟩⟩ }) e w' := by
  obtain ⟨p0, hp⟩ : ∃ p : PL, Hid (p = { PL.zero with kind := 4 }) := ⟨_, rfl⟩

  go_enter Try.func34, Try.ntmps34
  go_upto_region 2 with (first
    | refine wpList_buildTo rfl 32 _ rfl (some 9) rfl p0.cells (by rw [hp.out]; kernel_rfl) ?_
    | refine wpList_store_rowTo rfl 32 _ _ rfl rfl (w.heap.size + 1) p0.cells rfl rfl 32 _ (two_heap w _ _) (size32p p0) rfl (PL.cells_one p0) ?_)
  refine (?_ : ∀ W, Hid (RQ w W rb l at0 bad p0) → Code.wp Try.prog _ _ _ W) _ (RQ.begun h ha)
  clear h ha
  intro W HS
  go_upto_region 32 with (go_at_call 61; refine (rq61 HS.out).mono ?_; rintro e w1 ⟨x0, a0, d0, rfl, k0⟩; have c7 := k0.out.1.at 7 _ (PL.at7 _); have f7 := k0.out.1.fz 7)
  have K0 : Hid (RQ w _ rb l a0 d0 _) := k0.out.1.nd ⟨⟨x0⟩⟩
  clear c7 f7
  obtain ⟨p1, hp1⟩ : ∃ q : PL, Hid (q = { p0 with nd := ⟨⟨x0⟩⟩ }) := ⟨_, rfl⟩
  rw [← hp1.out] at K0
  have HF : Hid _ := K0.out.fin
  go_wp2_with (first
    | refine wpList_load_row rfl 32 _ rfl (w.heap.size + 1) rfl 32 p1.cells (0, 0) _ K0.out.b1 Try.underlying32 rfl (size32p _) ?_
    | refine wpList_store_row rfl 32 _ _ rfl w.heap.size p1.cells rfl rfl 32 PL.zero.cells K0.out.b0 (size32p _) rfl (PL.cells_one _) ?_)
  refine bodyPost_ret (back34 _ _ _ w.heap.size rfl HF.out.1) rfl ?_
  exact RQ.plr K0 x0 (by rw [hp1.out]; rw [hp.out]) k0.out.2
set_option maxHeartbeats 4000000 in
set_option maxRecDepth 100000 in
theorem plain6 (w : World) (rb at0 : Nat) (l : List UInt8) (bad : Bool) (h : Rf w rb l at0 bad) (ha : at0 ≤ l.length) : Calls Try.prog 34 #[.pointer (some ⟨rb, 0, none⟩), .int .i64 6] w fun e w' => PlR w rb l at0 bad (numD 7) (fun x : Nat => { PL.zero with kind := 6, id := (x : Nat) }) e w' := by
  obtain ⟨p0, hp⟩ : ∃ p : PL, Hid (p = { PL.zero with kind := 6 }) := ⟨_, rfl⟩

  go_enter Try.func34, Try.ntmps34
  go_upto_region 2 with (first
    | refine wpList_buildTo rfl 32 _ rfl (some 9) rfl p0.cells (by rw [hp.out]; kernel_rfl) ?_
    | refine wpList_store_rowTo rfl 32 _ _ rfl rfl (w.heap.size + 1) p0.cells rfl rfl 32 _ (two_heap w _ _) (size32p p0) rfl (PL.cells_one p0) ?_)
  refine (?_ : ∀ W, Hid (RQ w W rb l at0 bad p0) → Code.wp Try.prog _ _ _ W) _ (RQ.begun h ha)
  clear h ha
  intro W HS
  go_upto_region 32 with (go_at_call 62; refine (rq62 HS.out).mono ?_; rintro e w1 ⟨x0, a0, d0, rfl, k0⟩; have c24 := k0.out.1.at 24 _ (PL.at24 _); have f24 := k0.out.1.fz 24)
  have K0 : Hid (RQ w _ rb l a0 d0 _) := k0.out.1.id x0
  clear c24 f24
  obtain ⟨p1, hp1⟩ : ∃ q : PL, Hid (q = { p0 with id := (x0 : Nat) }) := ⟨_, rfl⟩
  rw [← hp1.out] at K0
  have HF : Hid _ := K0.out.fin
  go_wp2_with (first
    | refine wpList_load_row rfl 32 _ rfl (w.heap.size + 1) rfl 32 p1.cells (0, 0) _ K0.out.b1 Try.underlying32 rfl (size32p _) ?_
    | refine wpList_store_row rfl 32 _ _ rfl w.heap.size p1.cells rfl rfl 32 PL.zero.cells K0.out.b0 (size32p _) rfl (PL.cells_one _) ?_)
  refine bodyPost_ret (back34 _ _ _ w.heap.size rfl HF.out.1) rfl ?_
  exact RQ.plr K0 x0 (by rw [hp1.out]; rw [hp.out]) k0.out.2.1
set_option maxHeartbeats 4000000 in
set_option maxRecDepth 100000 in
theorem plain8 (w : World) (rb at0 : Nat) (l : List UInt8) (bad : Bool) (h : Rf w rb l at0 bad) (ha : at0 ≤ l.length) : Calls Try.prog 34 #[.pointer (some ⟨rb, 0, none⟩), .int .i64 8] w fun e w' => PlR w rb l at0 bad (numD 7) (fun x : Nat => { PL.zero with kind := 8, id := (x : Nat) }) e w' := by
  obtain ⟨p0, hp⟩ : ∃ p : PL, Hid (p = { PL.zero with kind := 8 }) := ⟨_, rfl⟩

  go_enter Try.func34, Try.ntmps34
  go_upto_region 2 with (first
    | refine wpList_buildTo rfl 32 _ rfl (some 9) rfl p0.cells (by rw [hp.out]; kernel_rfl) ?_
    | refine wpList_store_rowTo rfl 32 _ _ rfl rfl (w.heap.size + 1) p0.cells rfl rfl 32 _ (two_heap w _ _) (size32p p0) rfl (PL.cells_one p0) ?_)
  refine (?_ : ∀ W, Hid (RQ w W rb l at0 bad p0) → Code.wp Try.prog _ _ _ W) _ (RQ.begun h ha)
  clear h ha
  intro W HS
  go_upto_region 32 with (go_at_call 62; refine (rq62 HS.out).mono ?_; rintro e w1 ⟨x0, a0, d0, rfl, k0⟩; have c24 := k0.out.1.at 24 _ (PL.at24 _); have f24 := k0.out.1.fz 24)
  have K0 : Hid (RQ w _ rb l a0 d0 _) := k0.out.1.id x0
  clear c24 f24
  obtain ⟨p1, hp1⟩ : ∃ q : PL, Hid (q = { p0 with id := (x0 : Nat) }) := ⟨_, rfl⟩
  rw [← hp1.out] at K0
  have HF : Hid _ := K0.out.fin
  go_wp2_with (first
    | refine wpList_load_row rfl 32 _ rfl (w.heap.size + 1) rfl 32 p1.cells (0, 0) _ K0.out.b1 Try.underlying32 rfl (size32p _) ?_
    | refine wpList_store_row rfl 32 _ _ rfl w.heap.size p1.cells rfl rfl 32 PL.zero.cells K0.out.b0 (size32p _) rfl (PL.cells_one _) ?_)
  refine bodyPost_ret (back34 _ _ _ w.heap.size rfl HF.out.1) rfl ?_
  exact RQ.plr K0 x0 (by rw [hp1.out]; rw [hp.out]) k0.out.2.1
set_option maxHeartbeats 4000000 in
set_option maxRecDepth 100000 in
theorem plain9 (w : World) (rb at0 : Nat) (l : List UInt8) (bad : Bool) (h : Rf w rb l at0 bad) (ha : at0 ≤ l.length) : Calls Try.prog 34 #[.pointer (some ⟨rb, 0, none⟩), .int .i64 9] w fun e w' => PlR w rb l at0 bad (bD (numD 7) txtD) (fun x : Nat × List UInt8 => { PL.zero with kind := 9, id := (x.1 : Nat), nd := ⟨⟨x.2⟩⟩ }) e w' := by
  obtain ⟨p0, hp⟩ : ∃ p : PL, Hid (p = { PL.zero with kind := 9 }) := ⟨_, rfl⟩

  go_enter Try.func34, Try.ntmps34
  go_upto_region 2 with (first
    | refine wpList_buildTo rfl 32 _ rfl (some 9) rfl p0.cells (by rw [hp.out]; kernel_rfl) ?_
    | refine wpList_store_rowTo rfl 32 _ _ rfl rfl (w.heap.size + 1) p0.cells rfl rfl 32 _ (two_heap w _ _) (size32p p0) rfl (PL.cells_one p0) ?_)
  refine (?_ : ∀ W, Hid (RQ w W rb l at0 bad p0) → Code.wp Try.prog _ _ _ W) _ (RQ.begun h ha)
  clear h ha
  intro W HS
  go_upto_region 28 with (go_at_call 62; refine (rq62 HS.out).mono ?_; rintro e w1 ⟨x0, a0, d0, rfl, k0⟩; have c24 := k0.out.1.at 24 _ (PL.at24 _); have f24 := k0.out.1.fz 24)
  have K0 : Hid (RQ w _ rb l a0 d0 _) := k0.out.1.id x0
  clear c24 f24
  obtain ⟨p1, hp1⟩ : ∃ q : PL, Hid (q = { p0 with id := (x0 : Nat) }) := ⟨_, rfl⟩
  rw [← hp1.out] at K0
  go_upto_region 32 with (go_at_call 61; refine (rq61 K0.out).mono ?_; rintro e w2 ⟨x1, a1, d1, rfl, k1⟩; have c7 := k1.out.1.at 7 _ (PL.at7 _); have f7 := k1.out.1.fz 7)
  have K1 : Hid (RQ w _ rb l a1 d1 _) := k1.out.1.nd ⟨⟨x1⟩⟩
  clear c7 f7
  obtain ⟨p2, hp2⟩ : ∃ q : PL, Hid (q = { p1 with nd := ⟨⟨x1⟩⟩ }) := ⟨_, rfl⟩
  rw [← hp2.out] at K1
  have HF : Hid _ := K1.out.fin
  go_wp2_with (first
    | refine wpList_load_row rfl 32 _ rfl (w.heap.size + 1) rfl 32 p2.cells (0, 0) _ K1.out.b1 Try.underlying32 rfl (size32p _) ?_
    | refine wpList_store_row rfl 32 _ _ rfl w.heap.size p2.cells rfl rfl 32 PL.zero.cells K1.out.b0 (size32p _) rfl (PL.cells_one _) ?_)
  refine bodyPost_ret (back34 _ _ _ w.heap.size rfl HF.out.1) rfl ?_
  exact RQ.plr K1 (x0, x1) (by rw [hp2.out]; rw [hp1.out]; rw [hp.out]) (k0.out.2.1.pair k1.out.2)
set_option maxHeartbeats 4000000 in
set_option maxRecDepth 100000 in
theorem plain10 (w : World) (rb at0 : Nat) (l : List UInt8) (bad : Bool) (h : Rf w rb l at0 bad) (ha : at0 ≤ l.length) : Calls Try.prog 34 #[.pointer (some ⟨rb, 0, none⟩), .int .i64 10] w fun e w' => PlR w rb l at0 bad (bD (numD 7) (numD 7)) (fun x : Nat × Nat => { PL.zero with kind := 10, id := (x.1 : Nat), st := (x.2 : Nat) }) e w' := by
  obtain ⟨p0, hp⟩ : ∃ p : PL, Hid (p = { PL.zero with kind := 10 }) := ⟨_, rfl⟩

  go_enter Try.func34, Try.ntmps34
  go_upto_region 2 with (first
    | refine wpList_buildTo rfl 32 _ rfl (some 9) rfl p0.cells (by rw [hp.out]; kernel_rfl) ?_
    | refine wpList_store_rowTo rfl 32 _ _ rfl rfl (w.heap.size + 1) p0.cells rfl rfl 32 _ (two_heap w _ _) (size32p p0) rfl (PL.cells_one p0) ?_)
  refine (?_ : ∀ W, Hid (RQ w W rb l at0 bad p0) → Code.wp Try.prog _ _ _ W) _ (RQ.begun h ha)
  clear h ha
  intro W HS
  go_upto_region 31 with (go_at_call 62; refine (rq62 HS.out).mono ?_; rintro e w1 ⟨x0, a0, d0, rfl, k0⟩; have c24 := k0.out.1.at 24 _ (PL.at24 _); have f24 := k0.out.1.fz 24)
  have K0 : Hid (RQ w _ rb l a0 d0 _) := k0.out.1.id x0
  clear c24 f24
  obtain ⟨p1, hp1⟩ : ∃ q : PL, Hid (q = { p0 with id := (x0 : Nat) }) := ⟨_, rfl⟩
  rw [← hp1.out] at K0
  go_upto_region 32 with (go_at_call 62; refine (rq62 K0.out).mono ?_; rintro e w2 ⟨x1, a1, d1, rfl, k1⟩; have c26 := k1.out.1.at 26 _ (PL.at26 _); have f26 := k1.out.1.fz 26)
  have K1 : Hid (RQ w _ rb l a1 d1 _) := k1.out.1.st x1
  clear c26 f26
  obtain ⟨p2, hp2⟩ : ∃ q : PL, Hid (q = { p1 with st := (x1 : Nat) }) := ⟨_, rfl⟩
  rw [← hp2.out] at K1
  have HF : Hid _ := K1.out.fin
  go_wp2_with (first
    | refine wpList_load_row rfl 32 _ rfl (w.heap.size + 1) rfl 32 p2.cells (0, 0) _ K1.out.b1 Try.underlying32 rfl (size32p _) ?_
    | refine wpList_store_row rfl 32 _ _ rfl w.heap.size p2.cells rfl rfl 32 PL.zero.cells K1.out.b0 (size32p _) rfl (PL.cells_one _) ?_)
  refine bodyPost_ret (back34 _ _ _ w.heap.size rfl HF.out.1) rfl ?_
  exact RQ.plr K1 (x0, x1) (by rw [hp2.out]; rw [hp1.out]; rw [hp.out]) (k0.out.2.1.pair k1.out.2.1)
set_option maxHeartbeats 4000000 in
set_option maxRecDepth 100000 in
theorem plain11 (w : World) (rb at0 : Nat) (l : List UInt8) (bad : Bool) (h : Rf w rb l at0 bad) (ha : at0 ≤ l.length) : Calls Try.prog 34 #[.pointer (some ⟨rb, 0, none⟩), .int .i64 11] w fun e w' => PlR w rb l at0 bad noD (fun _ : Unit => { PL.zero with kind := 11 }) e w' := by
  obtain ⟨p0, hp⟩ : ∃ p : PL, Hid (p = { PL.zero with kind := 11 }) := ⟨_, rfl⟩

  go_enter Try.func34, Try.ntmps34
  go_upto_region 2 with (first
    | refine wpList_buildTo rfl 32 _ rfl (some 9) rfl p0.cells (by rw [hp.out]; kernel_rfl) ?_
    | refine wpList_store_rowTo rfl 32 _ _ rfl rfl (w.heap.size + 1) p0.cells rfl rfl 32 _ (two_heap w _ _) (size32p p0) rfl (PL.cells_one p0) ?_)
  refine (?_ : ∀ W, Hid (RQ w W rb l at0 bad p0) → Code.wp Try.prog _ _ _ W) _ (RQ.begun h ha)
  clear h ha
  intro W HS
  go_upto_region 32 with fail
  have HF : Hid _ := HS.out.fin
  go_wp2_with (first
    | refine wpList_load_row rfl 32 _ rfl (w.heap.size + 1) rfl 32 p0.cells (0, 0) _ HS.out.b1 Try.underlying32 rfl (size32p _) ?_
    | refine wpList_store_row rfl 32 _ _ rfl w.heap.size p0.cells rfl rfl 32 PL.zero.cells HS.out.b0 (size32p _) rfl (PL.cells_one _) ?_)
  refine bodyPost_ret (back34 _ _ _ w.heap.size rfl HF.out.1) rfl ?_
  exact RQ.plr HS () (by rw [hp.out]) OneX.no
end Go.Proofs.Ytnkkiepoljbhlaa
