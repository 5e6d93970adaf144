/-
  The reference's log: New, Get, Range, Came.
-/
import Derived.Test.YtplcpjngpkghmaaKb
namespace Go.Proofs.Ytplcpjngpkghmaa
open Go.RowKit Go.Maps

/-- the reference's log as plain data -/
structure RL where
  all : List RC
  first : Nat
  next : Nat
  syn : Nat
  mb : Bool
  tr : Int
  ov : Bool
def RL.cs (R : RL) (v : Value) : Array Value := #[v, .int .i64 R.first, .int .i64 R.next, .int .i64 R.syn, .bool R.mb, .int .i64 R.tr, .bool R.ov]
structure RfAt (w : World) (B rb : Nat) (R : RL) (v : Value) : Prop where
  cell : w.heap[rb]? = some (.cells #[v, .int .i64 R.first, .int .i64 R.next, .int .i64 R.syn, .bool R.mb, .int .i64 R.tr, .bool R.ov] 40 (0, 0))
  lo : B ≤ rb
  ps : PsOwn w B v R.all
  nx : R.next ≤ R.all.length
  fx : R.first ≤ R.next
  sx : R.syn ≤ R.next
  ln : R.all.length ≤ 1000000
  h80 : ∀ r ∈ R.all, r.b.length ≤ 4080
def Rf (w : World) (B rb : Nat) (R : RL) : Prop := ∃ v, RfAt w B rb R v
theorem Rf.keep {w w' : World} {B rb : Nat} {R : RL} (h : Rf w B rb R) (b : Below w.heap.size w w') : Rf w' B rb R := by
  obtain ⟨v, h⟩ := h
  exact ⟨v, at_below b (Nat.le_refl _) h.cell, h.lo, h.ps.keep b, h.nx, h.fx, h.sx, h.ln, h.h80⟩
theorem k7 {w : World} {g : Nat} {a0 a1 a2 a3 a4 a5 a6 : Value} {t : TypeId} (h : w.heap[g]? = some (.cells #[a0, a1, a2, a3, a4, a5, a6] t (0, 0))) : w.cell? ⟨g, 0, none⟩ = some a0 ∧ w.cell? ⟨g, 1, none⟩ = some a1 ∧ w.cell? ⟨g, 2, none⟩ = some a2 ∧ w.cell? ⟨g, 3, none⟩ = some a3 ∧ w.cell? ⟨g, 4, none⟩ = some a4 ∧ w.cell? ⟨g, 5, none⟩ = some a5 ∧ w.cell? ⟨g, 6, none⟩ = some a6 :=
  ⟨Lib.cell_of_heap h 0, Lib.cell_of_heap h 1, Lib.cell_of_heap h 2, Lib.cell_of_heap h 3, Lib.cell_of_heap h 4, Lib.cell_of_heap h 5, Lib.cell_of_heap h 6⟩
def RL.new : RL := ⟨[], 0, 0, 0, false, -1, false⟩
set_option maxHeartbeats 400000 in
theorem rnew_at (w : World) : Calls Try.prog 13 #[] w fun e w' => e = .returned (.pointer (some ⟨w.heap.size, 0, none⟩)) ∧ w' = w.alloc (.cells #[.slice none 0 0, .int .i64 0, .int .i64 0, .int .i64 0, .bool false, .int .i64 (-1), .bool false] 40) := by
  go_enter Try.func13, Try.ntmps13
  go_wp2_with fail
  go_ret
  exact ⟨rfl, rfl⟩
theorem rnew_any (w : World) (B : Nat) (hB : B ≤ w.heap.size) : Calls Try.prog 13 #[] w fun e w' => e = .returned (.pointer (some ⟨w.heap.size, 0, none⟩)) ∧ Rf w' B w.heap.size RL.new ∧ Below w.heap.size w w' := by
  refine (rnew_at w).mono ?_
  rintro e w' ⟨rfl, rfl⟩
  exact ⟨rfl, ⟨_, new0, hB, PsOwn.nil _ _, Nat.le_refl _, Nat.le_refl _, Nat.le_refl _, Nat.zero_le _, nofun⟩, (Below.refl _ w).alloc (Nat.le_refl _) _⟩
set_option maxHeartbeats 1000000 in
theorem rget_no {w : World} {B rb : Nat} {R : RL} (h : Hid (Rf w B rb R)) (n : Int) (hn : n < R.first ∨ (R.next : Int) ≤ n) :
    Calls Try.prog 40 #[.pointer (some ⟨rb, 0, none⟩), .int .i64 n] w fun e w' => e = .returned (.tuple #[.slice none 0 0, .int .i64 2]) ∧ w' = w := by
  obtain ⟨v, hv⟩ := h.out
  obtain ⟨e0, e1, e2, e3, e4, e5, e6⟩ := k7 hv.cell
  clear hv
  by_cases h1 : n < R.first
  · clear hn
    go_enter Try.func40, Try.ntmps40
    go_wp2_with fail
    go_ret2
    exact ⟨rfl, rfl⟩
  · have h2 : (R.next : Int) ≤ n := by omega
    have h3 : (R.first : Int) ≤ n := by omega
    clear hn h1
    go_enter Try.func40, Try.ntmps40
    go_wp2_with fail
    go_ret2
    exact ⟨rfl, rfl⟩
set_option maxHeartbeats 1000000 in
theorem rget_ok {w : World} {B rb : Nat} {R : RL} (h : Hid (Rf w B rb R)) (n : Nat) (r : RC) (h1 : R.first ≤ n) (h2 : n < R.next) (hr : Hid (R.all[n]? = some r)) :
    Calls Try.prog 40 #[.pointer (some ⟨rb, 0, none⟩), .int .i64 n] w fun e w' => e = .returned (.tuple #[.slice r.a r.b.length r.c, .int .i64 0]) ∧ w' = w := by
  obtain ⟨v, hv⟩ := h.out
  obtain ⟨g, cap, hvv⟩ : ∃ g cap, v = .slice (some ⟨g, 0, none⟩) R.all.length cap := by
    rcases hv.ps.row.2 with ⟨_, h0⟩ | ⟨g, cap, cur, e, _⟩
    · have := hv.nx; omega
    · exact ⟨g, cap, e⟩
  subst hvv
  have hc := World.ownsRow.cells hv.ps.row (g := g) rfl n (RC.v r) (by rw [List.getElem?_map, hr.out]; rfl)
  rw [Addr.add_lit, Nat.zero_add] at hc
  have hc' : w.cell? ⟨g, n, none⟩ = some (.slice r.a r.b.length r.c) := hc
  obtain ⟨e0, e1, e2, e3, e4, e5, e6⟩ := k7 hv.cell
  have h4 : (n : Int) < R.all.length := by have := hv.nx; omega
  clear hv hc
  have h3 : (R.first : Int) ≤ n := by omega
  have h5 : (n : Int) < R.next := by omega
  have h6 : (0 : Int) ≤ n := by omega
  have h7 : n < R.all.length := by omega
  go_enter Try.func40, Try.ntmps40
  go_wp2_with fail
  go_ret2
  exact ⟨rfl, rfl⟩
set_option maxHeartbeats 2000000 in
theorem range_ok {w : World} {B rb : Nat} {R : RL} (h : Hid (Rf w B rb R)) (nx : Nat) (h1 : R.syn ≤ nx) (h2 : nx ≤ R.next) (h3 : R.first ≤ nx) :
    Calls Try.prog 36 #[.pointer (some ⟨rb, 0, none⟩), .int .i64 R.first, .int .i64 nx] w fun e w' => e = .returned (.bool true) ∧ w' = w := by
  obtain ⟨v, hv⟩ := h.out
  obtain ⟨e0, e1, e2, e3, e4, e5, e6⟩ := k7 hv.cell
  have hl := hv.ln
  have hn := hv.nx
  clear hv
  have g1 : (R.syn : Int) ≤ nx := by omega
  have g2 : (nx : Int) ≤ R.next := by omega
  have g3 : (R.first : Int) ≤ nx := by omega
  have g4 : IntKind.i64.wrap ((R.next : Int) + 1) = R.next + 1 := by rw [IntKind.wrap_i64]; omega
  have g5 : (nx : Int) ≤ R.next + 1 := by omega
  clear hl hn
  cases hm : R.mb
  all_goals
    rw [hm] at e4
    go_enter Try.func36, Try.ntmps36
    go_wp2_with fail
    go_ret
    exact ⟨rfl, rfl⟩
def RL.came (R : RL) (nx : Nat) : RL := ⟨R.all, R.first, nx, nx, false, -1, false⟩
set_option maxHeartbeats 2000000 in
theorem came_at (w : World) (rb : Nat) (a0 a1 a2 a3 a4 a5 a6 : Value) (f n : Int) (h : Hid (w.heap[rb]? = some (.cells #[a0, a1, a2, a3, a4, a5, a6] 40 (0, 0)))) :
    Calls Try.prog 37 #[.pointer (some ⟨rb, 0, none⟩), .int .i64 f, .int .i64 n] w fun e w' => e = .returned (.tuple #[]) ∧ w' = (((((w.setCell ⟨rb, 1, none⟩ (.int .i64 f)).setCell ⟨rb, 2, none⟩ (.int .i64 n)).setCell ⟨rb, 3, none⟩ (.int .i64 n)).setCell ⟨rb, 4, none⟩ (.bool false)).setCell ⟨rb, 5, none⟩ (.int .i64 (-1))).setCell ⟨rb, 6, none⟩ (.bool false) := by
  obtain ⟨e0, e1, e2, e3, e4, e5, e6⟩ := k7 h.out
  have f1 := fz h.out 1
  have f2 := fz h.out 2
  have f3 := fz h.out 3
  have f4 := fz h.out 4
  have f5 := fz h.out 5
  have f6 := fz h.out 6
  go_enter Try.func37, Try.ntmps37
  go_wp2_with fail
  go_end0
  exact ⟨rfl, rfl⟩
theorem Kp.put {w w' : World} {rb : Nat} (h : Kp (· = rb) w w') (i : Nat) (u : Value) : Kp (· = rb) w (w'.setCell ⟨rb, i, none⟩ u) := h.trans (Kp.of_set (S := (· = rb)) _ ⟨rb, i, none⟩ u rfl) fun _ _ e => e
/-- the blocks of the reference's log -/
def RB (rb : Nat) (v : Value) (R : RL) (g : Nat) : Prop := g = rb ∨ v.ownBlock = some g ∨ ∃ r ∈ R.all, r.v.ownBlock = some g
theorem RfAt.keepAt {w w' : World} {B rb : Nat} {R : RL} {v : Value} (h : RfAt w B rb R v) (e : ∀ g, RB rb v R g → w'.heap[g]? = w.heap[g]?) : RfAt w' B rb R v :=
  ⟨(e rb (.inl rfl)).trans h.cell, h.lo, ⟨ownsKeep h.ps.row fun g hg => e g (.inr (.inl hg)), fun r hr => (h.ps.each r hr).keepAt fun g hg => e g (.inr (.inr ⟨r, hr, hg⟩))⟩, h.nx, h.fx, h.sx, h.ln, h.h80⟩
theorem own_type {w : World} {B t s n : Nat} {v : Value} {xs : List Value} (h : w.ownsRow B t s v n xs) {g : Nat} (e : v.ownBlock = some g) : ∃ cur, w.heap[g]? = some (.cells cur t (0, 0)) := by
  rcases h.2 with ⟨rfl, _⟩ | ⟨g1, cap, cur, rfl, hb, hgg, rest⟩
  · cases e
  · have e1 : g1 = g := by simpa [Value.ownBlock] using e
    subst e1
    exact ⟨cur, hgg⟩
theorem RfAt.ne {w : World} {B rb : Nat} {R : RL} {v : Value} (h : RfAt w B rb R v) {g : Nat} (e : v.ownBlock = some g ∨ ∃ r ∈ R.all, r.v.ownBlock = some g) : g ≠ rb := by
  rintro rfl
  rcases e with e | ⟨r, hr, e⟩
  · obtain ⟨cur, h1⟩ := own_type h.ps.row e
    rw [h.cell] at h1
    cases h1
  · obtain ⟨cur, h1⟩ := own_type (h.ps.each r hr) e
    rw [h.cell] at h1
    cases h1
theorem RfAt.lt {w : World} {B rb : Nat} {R : RL} {v : Value} (h : RfAt w B rb R v) {g : Nat} (e : RB rb v R g) : B ≤ g ∧ g < w.heap.size := by
  rcases e with rfl | e | ⟨r, hr, e⟩
  · exact ⟨h.lo, (Array.getElem?_eq_some_iff.1 h.cell).1⟩
  · exact World.ownsRow.lt h.ps.row g e
  · exact World.ownsRow.lt (h.ps.each r hr) g e
/-- other numbers in the log's cells -/
theorem RfAt.set {w w' : World} {B rb : Nat} {R R' : RL} {v : Value} (h : RfAt w B rb R v) (k : Kp (· = rb) w w') (hc : w'.heap[rb]? = some (.cells #[v, .int .i64 R'.first, .int .i64 R'.next, .int .i64 R'.syn, .bool R'.mb, .int .i64 R'.tr, .bool R'.ov] 40 (0, 0))) (ha : R'.all = R.all) (h1 : R'.next ≤ R'.all.length) (h2 : R'.first ≤ R'.next) (h3 : R'.syn ≤ R'.next) : RfAt w' B rb R' v := by
  refine ⟨hc, h.lo, ?_, h1, h2, h3, by rw [ha]; exact h.ln, by rw [ha]; exact h.h80⟩
  rw [ha]
  exact ⟨ownsKeep h.ps.row fun g hg => k.block g (World.ownsRow.lt h.ps.row g hg).2 (h.ne (.inl hg)), fun r hr => (h.ps.each r hr).keepAt fun g hg => k.block g (World.ownsRow.lt (h.ps.each r hr) g hg).2 (h.ne (.inr ⟨r, hr, hg⟩))⟩
theorem came_any {w : World} {B rb : Nat} {R : RL} {v : Value} (h : RfAt w B rb R v) (nx : Nat) (h1 : nx ≤ R.next) (h2 : R.first ≤ nx) :
    Calls Try.prog 37 #[.pointer (some ⟨rb, 0, none⟩), .int .i64 R.first, .int .i64 nx] w fun e w' => e = .returned (.tuple #[]) ∧ RfAt w' B rb (R.came nx) v ∧ Kp (· = rb) w w' := by
  refine (came_at w rb _ _ _ _ _ _ _ _ _ h.cell).mono ?_
  rintro e w' ⟨rfl, hw⟩
  have k : Kp (· = rb) w w' := by
    rw [hw]
    exact ((((((Kp.refl _ w).put 1 _).put 2 _).put 3 _).put 4 _).put 5 _).put 6 _
  refine ⟨rfl, h.set k ?_ rfl (Nat.le_trans h1 h.nx) h2 (Nat.le_refl _), k⟩
  rw [hw]
  exact setB (setB (setB (setB (setB (setB h.cell _) _) _) _) _) _
end Go.Proofs.Ytplcpjngpkghmaa
