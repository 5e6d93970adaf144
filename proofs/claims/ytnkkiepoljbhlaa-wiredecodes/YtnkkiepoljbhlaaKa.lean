/-
  The document's Decode, whatever plain reads. The document's Same of two records. WireDecodes: the law out of the contracts. WireDecodes: a kind without lists, put together.
-/
import Derived.Test.YtnkkiepoljbhlaaDv
import Derived.Laws.ResultCell
import Derived.Test.YtnkkiepoljbhlaaSjb
import Derived.Test.YtnkkiepoljbhlaaAwk
import Derived.Deep.RegionHeld3
import Derived.Test.YtnkkiepoljbhlaaDj
import Derived.Test.YtnkkiepoljbhlaaPn
import Derived.Test.YtnkkiepoljbhlaaLwj
namespace Go.Proofs.Ytnkkiepoljbhlaa
open Go.RowKit

theorem res16 : Try.f16.results = #[.cell 2 32, .tmp 3] := rfl
theorem back16 (p : PL) (tmps : Array Value) (w : World) (g : Nat) (v : Value) (hp : tmps.getD 2 undef = .pointer (some ⟨g, 0, none⟩)) (hv : tmps.getD 3 undef = v) (hg : w.heap[g]? = some (.cells p.cells 32 (0, 0))) : (results Try.f16 tmps).run Try.prog w = .ok (.tuple #[.agg p.cells, v]) w := by
  rw [results_cell_tmp res16, hp, hv]
  simp [asAddr, run_loadVar_row w g 32 32 p.cells (0, 0) _ hg Try.underlying32 rfl (size32p p), Result.andThen]
theorem built32z : Try.prog.built 32 [] = some PL.zero.cells := by kernel_rfl
theorem wpList_wanted {P : Program} {ops : Array Oper} {Q : Exit → Act → World → Prop} {a : Act} {w : World} {rest : List Oper} {o : Oper} (hw : Region.wanted o (yielded ops a.tmps) = true)
    (h : ∀ K : Act → World → Prop, (∀ a w, wpList P ops Q rest a w → K a w) → o.wp P a w K Q) : wpList P ops Q (o :: rest) a w :=
  wpList_step fun K hK => by simp only [hw, if_true]; exact h K hK
theorem wpList_load_roww {ops : Array Oper} {rest : List Oper} {o : Oper} {a : Act} {w : World} {Q : Exit → Act → World → Prop} (ty : TypeId) (x : Operand) (ho : o.op = .load ty x) (hw : Region.wanted o (yielded ops a.tmps) = true)
    (g : Nat) (hx : a.eval x = .pointer (some ⟨g, 0, none⟩)) (t : TypeId) (cs : Array Value) (fr : Nat × Nat) {fs} (hg : w.heap[g]? = some (.cells cs t fr))
    (hu : Try.prog.underlying ty = some (.struct fs)) (hi : (Try.prog.info? ty).map (·.size) = some cs.size)
    (h : wpList Try.prog ops Q rest (a.put o.dst (.agg cs)) w) : wpList Try.prog ops Q (o :: rest) a w :=
  wpList_wanted hw fun _ hK => wp_load_row ty x ho g hx t cs fr _ hg hu rfl hi (hK _ _ h)
/-- another block changes, and what is new -/
def Oth (g : Nat) (W W' : World) : Prop := W.heap.size ≤ W'.heap.size ∧ ∀ j, j ≠ g → j < W.heap.size → W'.heap[j]? = W.heap[j]?
theorem Oth.of_below {g : Nat} {W W' : World} (h : Below W.heap.size W W') : Oth g W W' := ⟨h.size, fun j _ hj => h.block j hj⟩
theorem Oth.row {g k : Nat} {W : World} {cs : Array Value} (h : k = g ∨ W.heap.size ≤ k) : Oth g W (W.setRow k cs) := ⟨by rw [size_setRow]; exact Nat.le_refl _, fun j hj hl => setRow_other W k j cs (by omega)⟩
theorem Oth.trans {g : Nat} {a b c : World} (h : Oth g a b) (k : Oth g b c) : Oth g a c := ⟨Nat.le_trans h.1 k.1, fun j hj hl => (k.2 j hj (Nat.lt_of_lt_of_le hl h.1)).trans (h.2 j hj hl)⟩
/-- what Decode says of bytes that hold a kind -/
def RDec {α : Type} (w : World) (n : Nat) (P : α → PL) (G : α → Nat → Bool → World → Prop) (ok : α → Bool) (e : Ending) (w' : World) : Prop := Below w.heap.size w w' ∧ ((∃ x, G x n false w' ∧ ok x = true ∧ e = .returned (.tuple #[.agg (P x).cells, .int .i64 0])) ∨ ((∃ x k b, G x k b w' ∧ ¬ (b = false ∧ k = n ∧ ok x = true)) ∧ e = .returned (.tuple #[.agg PL.zero.cells, .int .i64 12])))
set_option maxHeartbeats 4000000 in
set_option maxRecDepth 100000 in
theorem rdecode_gen {α : Type} (w : World) (p : Option Addr) (c : Nat) (l : List UInt8) (kd : UInt8) (hB : Byt w w.heap.size p c l) (h0 : l[0]? = some kd) (hk : 1 ≤ kd.toNat ∧ kd.toNat ≤ 11) (P : α → PL) (G : α → Nat → Bool → World → Prop) (ok : α → Bool)
    (HPl : ∀ rb W, Rf W rb l 1 false → w.heap.size < rb → Calls Try.prog 34 #[.pointer (some ⟨rb, 0, none⟩), .int .i64 (kd.toNat : Nat)] W fun e w' => ∃ x k bd, e = .returned (.agg (P x).cells) ∧ k ≤ l.length ∧ Rf w' rb l k bd ∧ RdK rb W w' ∧ G x k bd w')
    (HF : ∀ x W, G x l.length false W → Calls Try.prog 14 #[.agg (P x).cells] W fun e w' => e = .returned (.bool (ok x)) ∧ Below W.heap.size W w')
    (HG : ∀ x k b W W', G x k b W → Oth w.heap.size W W' → G x k b W') :
    Calls Try.prog 16 #[.slice p l.length c] w fun e w' => RDec w l.length P G ok e w' := by
  obtain ⟨n, hn⟩ : ∃ n, l.length = n := ⟨_, rfl⟩
  obtain ⟨m, hm⟩ : ∃ m, kd.toNat = m := ⟨_, rfl⟩
  have HN : Hid (l.length = n) := hn
  have hn0 : 0 < n := by
    have := (List.getElem?_eq_some_iff.1 h0).1
    omega
  obtain ⟨g, o, rfl, hrow⟩ : ∃ g o, p = some ⟨g, o, none⟩ ∧ Row w g o l := by
    rcases hB.ly with e | h
    · rw [e] at h0; cases h0
    · exact h
  have D0 : Hid (∀ W, Below w.heap.size w W → W.cell? ⟨g, o, none⟩ = some (.int .u8 (m : Nat))) := fun W b => by
    have h1 := hrow 0 kd h0
    have h2 := (b.cell (block_lt_of_cell h1)).trans h1
    rw [hm] at h2
    exact h2
  have HB : Hid (Byt w w.heap.size (some ⟨g, o, none⟩) c l) := hB
  have HP1 : Hid (∀ rb W, Rf W rb l 1 false → w.heap.size < rb → Calls Try.prog 34 #[.pointer (some ⟨rb, 0, none⟩), .int .i64 (m : Nat)] W fun e w' => ∃ (q : PL) (k : Nat) (bd : Bool), e = .returned (.agg q.cells) ∧ Hid (k ≤ l.length ∧ Rf w' rb l k bd ∧ RdK rb W w' ∧ ∃ x, q = P x ∧ G x k bd w')) := fun rb W h1 h2 => by
    have h3 := HPl rb W h1 h2
    rw [hm] at h3
    refine h3.mono ?_
    rintro e w' ⟨x, k, bd, rfl, q1, q2, q3, q4⟩
    exact ⟨P x, k, bd, rfl, q1, q2, q3, x, rfl, q4⟩
  have HF1 : Hid (∀ q W, (∃ x, q = P x ∧ G x n false W) → Calls Try.prog 14 #[.agg q.cells] W fun e w' => ∃ b, e = .returned (.bool b) ∧ Hid (Below W.heap.size W w' ∧ ∃ x, q = P x ∧ G x n false w' ∧ ok x = b)) := fun q W ⟨x, e1, h1⟩ => by
    rw [e1]
    rw [← HN.out] at h1 ⊢
    refine (HF x W h1).mono ?_
    rintro e w' ⟨rfl, b1⟩
    exact ⟨ok x, rfl, b1, x, rfl, HG _ _ _ _ _ h1 (Oth.of_below b1), rfl⟩
  have HG1 : Hid (∀ x k b W W', G x k b W → Oth w.heap.size W W' → G x k b W') := HG
  have y1 : ((m : Int) < 1) = False := by simp; omega
  have y2 : (11 < (m : Int)) = False := by simp; omega
  have y3 : decide ((m : Int) < 1) = false := by simp; omega
  have y4 : decide (11 < (m : Int)) = false := by simp; omega
  have y5 : (0 : Int) < (n : Int) := by omega
  have y6 : m < 256 := by omega
  rw [hn]
  clear hn hm hB HPl HF HG hrow h0 hk
  go_enter Try.func16, Try.ntmps16
  go_upto_region 1 with fail
  refine (?_ : ∀ W, Hid (W.heap[w.heap.size]? = some (.cells PL.zero.cells 32 (0, 0)) ∧ Below w.heap.size w W ∧ W.heap.size = w.heap.size + 1) → Code.wp Try.prog _ _ _ W) _ ⟨new0, (Below.refl _ w).alloc (Nat.le_refl _) _, by simp⟩
  intro W0 H0
  have d0 := D0.out W0 H0.out.2.1
  go_upto_region 4 with fail
  clear d0
  have H1 : Hid (Rf (W0.alloc (Obj.cells #[.slice (some ⟨g, o, none⟩) n c, .int .i64 1, .bool false] 93)) W0.heap.size l 1 false ∧ Below w.heap.size w (W0.alloc (Obj.cells #[.slice (some ⟨g, o, none⟩) n c, .int .i64 1, .bool false] 93)) ∧ (W0.alloc (Obj.cells #[.slice (some ⟨g, o, none⟩) n c, .int .i64 1, .bool false] 93)).heap[w.heap.size]? = some (.cells PL.zero.cells 32 (0, 0))) := by
    obtain ⟨q1, q2, q3⟩ := H0.out
    have hb : Below W0.heap.size W0 (W0.alloc (Obj.cells #[.slice (some ⟨g, o, none⟩) n c, .int .i64 1, .bool false] 93)) := (Below.refl _ W0).alloc (Nat.le_refl _) _
    refine ⟨⟨_, c, by rw [HN.out]; exact new0, ?_, HB.out.nc, fun a e => ?_, HB.out.cm⟩, below_from q2 hb q2.size, at_alloc q1⟩
    · rcases HB.out.ly with e | ⟨g', o', e, hr⟩
      · exact .inl e
      · exact .inr ⟨g', o', e, (hr.keep q2 (Nat.le_refl _)).keep hb (Nat.le_refl _)⟩
    · have := HB.out.bl a e
      exact ⟨by omega, this.2⟩
  refine (?_ : ∀ W, Hid (Rf W W0.heap.size l 1 false ∧ Below w.heap.size w W ∧ W.heap[w.heap.size]? = some (.cells PL.zero.cells 32 (0, 0))) → Code.wp Try.prog _ _ _ W) _ H1
  clear H1
  intro W1 H1
  have d1 := D0.out W1 H1.out.2.1
  have rl : w.heap.size < W0.heap.size := by rw [H0.out.2.2]; exact Nat.lt_succ_self _
  go_upto_region 5 with (first
    | (go_at_call 34; refine (HP1.out _ _ H1.out.1 rl).mono ?_; rintro e w1 ⟨q, k, bd, rfl, h1⟩)
    | refine wpList_store_rowTo rfl 32 _ _ rfl rfl w1.heap.size q.cells rfl rfl 32 _ new0 (size32p q) rfl (PL.cells_one q) ?_)
  clear d1
  have H2 : Hid (((w1.alloc (Obj.cells PL.zero.cells 32)).setRow w1.heap.size q.cells).heap[w1.heap.size]? = some (.cells q.cells 32 (0, 0)) ∧ Rf ((w1.alloc (Obj.cells PL.zero.cells 32)).setRow w1.heap.size q.cells) W0.heap.size l k bd ∧ Below w.heap.size w ((w1.alloc (Obj.cells PL.zero.cells 32)).setRow w1.heap.size q.cells) ∧ ((w1.alloc (Obj.cells PL.zero.cells 32)).setRow w1.heap.size q.cells).heap[w.heap.size]? = some (.cells PL.zero.cells 32 (0, 0)) ∧ k ≤ n ∧ ∃ x, q = P x ∧ G x k bd ((w1.alloc (Obj.cells PL.zero.cells 32)).setRow w1.heap.size q.cells)) := by
    obtain ⟨q1, q2, q3, x, q4, q5⟩ := h1.out
    obtain ⟨p1, p2, p3⟩ := H1.out
    have hb : Below w1.heap.size w1 (w1.alloc (Obj.cells PL.zero.cells 32)) := (Below.refl _ w1).alloc (Nat.le_refl _) _
    have hb2 : Below w1.heap.size w1 ((w1.alloc (Obj.cells PL.zero.cells 32)).setRow w1.heap.size q.cells) := below_setRow hb (Nat.le_refl _)
    have hk : Below w.heap.size w w1 := p2.trans (q3.below (by have := p2.size; omega) (by omega))
    have hl := (Array.getElem?_eq_some_iff.1 p3).1
    have hz : w1.heap[w.heap.size]? = some (.cells PL.zero.cells 32 (0, 0)) := (q3.block _ hl (by omega)).trans p3
    exact ⟨setRow_heap _ _ _ _ 32 (0, 0) new0, q2.below hb2, below_from hk hb2 hk.size, (hb2.block _ (Array.getElem?_eq_some_iff.1 hz).1).trans hz, by rw [← HN.out]; exact q1, x, q4, HG1.out _ _ _ _ _ q5 (Oth.of_below hb2)⟩
  refine (?_ : ∀ W, Hid (W.heap[w1.heap.size]? = some (.cells q.cells 32 (0, 0)) ∧ Rf W W0.heap.size l k bd ∧ Below w.heap.size w W ∧ W.heap[w.heap.size]? = some (.cells PL.zero.cells 32 (0, 0)) ∧ k ≤ n ∧ ∃ x, q = P x ∧ G x k bd W) → Code.wp Try.prog _ _ _ W) _ H2
  clear H2 h1 H1
  intro W2 H2
  obtain ⟨_, _, hb, _⟩ := H2.out.2.1
  obtain ⟨⟨r0, r1, r2⟩, g0, g1, g2⟩ := three_cells hb
  clear hb r0 g0 g1 g2
  by_cases hD : bd = false ∧ k = n
  · obtain ⟨rfl, rfl⟩ := hD
    have HC : Hid (Calls Try.prog 14 #[.agg q.cells] W2 fun e w' => ∃ b, e = .returned (.bool b) ∧ Hid (Below W2.heap.size W2 w' ∧ ∃ x, q = P x ∧ G x k false w' ∧ ok x = b)) := HF1.out q W2 H2.out.2.2.2.2.2
    go_wp2_with (first
      | refine wpList_load_roww 32 (.tmp 5) rfl (by first | rfl | kernel_rfl) w1.heap.size rfl 32 q.cells (0, 0) H2.out.1 Try.underlying32 (size32p _) ?_
      | (go_at_call 14; refine HC.out.mono ?_; rintro e w3 ⟨b, rfl, h3⟩; have Z3 : Hid (w3.heap[w.heap.size]? = some (.cells PL.zero.cells 32 (0, 0))) := (h3.out.1.block _ (Array.getElem?_eq_some_iff.1 H2.out.2.2.2.1).1).trans H2.out.2.2.2.1; have Q3 : Hid (w3.heap[w1.heap.size]? = some (.cells q.cells 32 (0, 0))) := (h3.out.1.block _ (Array.getElem?_eq_some_iff.1 H2.out.1).1).trans H2.out.1; cases b)
      | refine wpList_load_row rfl 32 _ rfl w1.heap.size rfl 32 q.cells (0, 0) _ Q3.out Try.underlying32 rfl (size32p _) ?_
      | refine wpList_buildTo rfl 32 _ rfl (some 49) rfl PL.zero.cells built32z ?_
      | refine wpList_store_rowTo rfl 32 _ _ rfl rfl w.heap.size PL.zero.cells rfl rfl 32 PL.zero.cells Z3.out (size32p _) rfl (PL.cells_one _) ?_
      | refine wpList_store_rowTo rfl 32 _ _ rfl rfl w.heap.size q.cells rfl rfl 32 PL.zero.cells Z3.out (size32p _) rfl (PL.cells_one _) ?_)
    · refine bodyPost_ret (back16 PL.zero _ _ w.heap.size (.int .i64 12) rfl rfl (setRow_heap _ _ _ _ 32 (0, 0) Z3.out)) rfl ?_
      obtain ⟨h4, x, h5, h6, h7⟩ := h3.out
      exact ⟨below_setRow (below_from H2.out.2.2.1 h4 H2.out.2.2.1.size) (Nat.le_refl _), .inr ⟨⟨x, k, false, HG1.out _ _ _ _ _ h6 (Oth.row (.inl rfl)), fun e => by rw [h7] at e; exact absurd e.2.2 (by simp)⟩, rfl⟩⟩
    · refine bodyPost_ret (back16 q _ _ w.heap.size (.int .i64 0) rfl rfl (setRow_heap _ _ _ _ 32 (0, 0) Z3.out)) rfl ?_
      obtain ⟨h4, x, h5, h6, h7⟩ := h3.out
      exact ⟨below_setRow (below_from H2.out.2.2.1 h4 H2.out.2.2.1.size) (Nat.le_refl _), .inl ⟨x, HG1.out _ _ _ _ _ h6 (Oth.row (.inl rfl)), h7, by rw [h5]⟩⟩
  · have Z3 : Hid (W2.heap[w.heap.size]? = some (.cells PL.zero.cells 32 (0, 0))) := H2.out.2.2.2.1
    have HE : Hid (RDec w n P G ok (.returned (.tuple #[.agg PL.zero.cells, .int .i64 12])) (W2.setRow w.heap.size PL.zero.cells)) := by
      obtain ⟨x, h5, h6⟩ := H2.out.2.2.2.2.2
      exact ⟨below_setRow H2.out.2.2.1 (Nat.le_refl _), .inr ⟨⟨x, k, bd, HG1.out _ _ _ _ _ h6 (Oth.row (.inl rfl)), fun e => hD ⟨e.1, e.2.1⟩⟩, rfl⟩⟩
    have hX : bd = true ∨ (bd = false ∧ ((k : Int) = (n : Int)) = False ∧ decide ((k : Int) = (n : Int)) = false) := by
      cases bd with
      | true => exact .inl rfl
      | false =>
        have : k ≠ n := fun e => hD ⟨rfl, e⟩
        exact .inr ⟨rfl, by simp; omega, by simp; omega⟩
    clear hD
    rcases hX with rfl | ⟨rfl, x1, x2⟩
    all_goals
      go_wp2_with (first
        | refine wpList_buildTo rfl 32 _ rfl (some 49) rfl PL.zero.cells built32z ?_
        | refine wpList_store_rowTo rfl 32 _ _ rfl rfl w.heap.size PL.zero.cells rfl rfl 32 PL.zero.cells Z3.out (size32p _) rfl (PL.cells_one _) ?_)
      refine bodyPost_ret (back16 PL.zero _ _ w.heap.size (.int .i64 12) rfl rfl (setRow_heap _ _ _ _ 32 (0, 0) Z3.out)) rfl ?_
      exact HE.out
end Go.Proofs.Ytnkkiepoljbhlaa

namespace Go.Proofs.Ytnkkiepoljbhlaa
open Go.RowKit

theorem eqv23 (a b c d : Int) (w : World) : (Op.equalIn 9999 23 (.agg #[.int .i64 a, .int .i64 b, .int .i64 c, .int .i64 d]) (.agg #[.int .i64 a, .int .i64 b, .int .i64 c, .int .i64 d])).run Try.prog w = .ok true w := by
  have eqi (a : Int) (w : World) : (Op.equalIn 9998 2 (.int .i64 a) (.int .i64 a)).run Try.prog w = .ok (a == a) w := run_equalIn_int w 9997 2 .i64 .i64 a a Try.underlying2
  rw [run_equalIn_array w 9998 _ _ Try.underlying23 (info_of_underlying Try.underlying2).choose_spec, cells2]
  rw [show List.range 4 = [0, 1, 2, 3] from rfl]
  simp [Op.eqItems, part0, part1, part2, part3, eqi]
theorem jb_range {W : World} {b : Nat} {p : PL} (h : W.heap[b]? = some (.cells p.cells 32 (0, 0))) : W.rangeAt b 13 p.jb.cells.toList := World.rangeAt_of_block h 13 11
theorem wpList_load_jb {ops : Array Oper} {rest : List Oper} {o : Oper} {a : Act} {w : World} {Q : Exit → Act → World → Prop} (hgd : o.guard = none) (x : Operand) (ho : o.op = .load 30 x)
    (b : Nat) (hx : a.eval x = .pointer (some ⟨b, 13, none⟩)) (p : PL) (hb : w.heap[b]? = some (.cells p.cells 32 (0, 0)))
    (h : wpList Try.prog ops Q rest (a.put o.dst (.agg p.jb.cells)) w) : wpList Try.prog ops Q (o :: rest) a w := by
  refine wpList_load_mid hgd 30 x ho b 13 hx p.jb.cells.toList _ (jb_range hb) Try.underlying30 rfl (by rw [Array.length_toList]; exact size30q p.jb) ?_
  rw [Array.toArray_toList]
  exact h
/-- a record's cells as they lie, but for the job's -/
theorem pl_ats {W : World} {b : Nat} {p : PL} (h : W.heap[b]? = some (.cells p.cells 32 (0, 0))) : W.cell? ⟨b, 0, none⟩ = some (.int .i64 p.kind) ∧ W.cell? ⟨b, 1, none⟩ = some (.string p.tn) ∧ W.cell? ⟨b, 2, none⟩ = some (.int .i64 p.tw) ∧ W.cell? ⟨b, 3, none⟩ = some (.int .i64 p.q0) ∧ W.cell? ⟨b, 4, none⟩ = some (.int .i64 p.q1) ∧ W.cell? ⟨b, 5, none⟩ = some (.int .i64 p.q2) ∧ W.cell? ⟨b, 6, none⟩ = some (.int .i64 p.q3) ∧ W.cell? ⟨b, 7, none⟩ = some (.string p.nd) ∧ W.cell? ⟨b, 8, none⟩ = some (.int .i64 p.ep) ∧ W.cell? ⟨b, 9, none⟩ = some (.int .i64 p.v0) ∧ W.cell? ⟨b, 10, none⟩ = some (.int .i64 p.v1) ∧ W.cell? ⟨b, 11, none⟩ = some (.int .i64 p.v2) ∧ W.cell? ⟨b, 12, none⟩ = some (.int .i64 p.v3) ∧ W.cell? ⟨b, 24, none⟩ = some (.int .i64 p.id) ∧ W.cell? ⟨b, 25, none⟩ = some (.slice p.ns.a p.ns.n p.ns.c) ∧ W.cell? ⟨b, 26, none⟩ = some (.int .i64 p.st) :=
  ⟨Lib.cell_of_heap h 0, Lib.cell_of_heap h 1, Lib.cell_of_heap h 2, Lib.cell_of_heap h 3, Lib.cell_of_heap h 4, Lib.cell_of_heap h 5, Lib.cell_of_heap h 6, Lib.cell_of_heap h 7, Lib.cell_of_heap h 8, Lib.cell_of_heap h 9, Lib.cell_of_heap h 10, Lib.cell_of_heap h 11, Lib.cell_of_heap h 12, Lib.cell_of_heap h 24, Lib.cell_of_heap h 25, Lib.cell_of_heap h 26⟩
set_option maxHeartbeats 4000000 in
set_option maxRecDepth 100000 in
theorem same17_at (p q : PL) (j : JB) (s : SL) (w : World) (hq : q = { p with jb := j, ns := s })
    (HJ : Hid (∀ W, Below w.heap.size w W → Calls Try.prog 19 #[.agg p.jb.cells, .agg j.cells] W fun e w' => e = .returned (.bool true) ∧ Below W.heap.size W w'))
    (HN : Hid (∀ W, Below w.heap.size w W → Calls Try.prog 35 #[.slice p.ns.a p.ns.n p.ns.c, .slice s.a s.n s.c] W fun e w' => e = .returned (.bool true) ∧ Below W.heap.size W w')) :
    Calls Try.prog 17 #[.agg p.cells, .agg q.cells] w fun e w' => e = .returned (.bool true) ∧ Below w.heap.size w w' := by
  have HQ : Hid (q = { p with jb := j, ns := s }) := hq
  clear hq
  go_enter Try.func17, Try.ntmps17
  go_upto_region 1 with fail
  have H0 : Hid (((w.alloc (Obj.cells p.cells 32)).alloc (Obj.cells q.cells 32)).heap[w.heap.size]? = some (.cells p.cells 32 (0, 0)) ∧ ((w.alloc (Obj.cells p.cells 32)).alloc (Obj.cells q.cells 32)).heap[w.heap.size + 1]? = some (.cells q.cells 32 (0, 0)) ∧ Below w.heap.size w ((w.alloc (Obj.cells p.cells 32)).alloc (Obj.cells q.cells 32))) := ⟨at_alloc new0, two_heap w _ _, ((Below.refl _ w).alloc (Nat.le_refl _) _).alloc (by simp) _⟩
  refine (?_ : ∀ W, Hid (W.heap[w.heap.size]? = some (.cells p.cells 32 (0, 0)) ∧ W.heap[w.heap.size + 1]? = some (.cells q.cells 32 (0, 0)) ∧ Below w.heap.size w W) → Code.wp Try.prog _ _ _ W) _ H0
  clear H0
  intro W H0
  obtain ⟨c0, c1, c2, c3, c4, c5, c6, c7, c8, c9, c10, c11, c12, c24, c25, c26⟩ := pl_ats H0.out.1
  have K := pl_ats H0.out.2.1
  rw [HQ.out] at K
  obtain ⟨d0, d1, d2, d3, d4, d5, d6, d7, d8, d9, d10, d11, d12, d24, d25, d26⟩ := K
  simp only at d0 d1 d2 d3 d4 d5 d6 d7 d8 d9 d10 d11 d12 d24 d25 d26
  have QJ : Hid (q.jb = j) := by rw [HQ.out]; rfl
  have E1 := fun W => eqv23 p.q0 p.q1 p.q2 p.q3 W
  have E2 := fun W => eq4 p.v0 p.v1 p.v2 p.v3 W
  go_upto_region 3 with fail
  go_wp2_with (first
    | refine wpList_load_jb rfl (.tmp 52) rfl w.heap.size rfl p H0.out.1 ?_
    | (refine wpList_load_jb rfl (.tmp 54) rfl (w.heap.size + 1) rfl q H0.out.2.1 ?_; rw [QJ.out])
    | (go_at_call 19; refine (HJ.out _ H0.out.2.2).mono ?_; rintro e w1 ⟨rfl, b1⟩; have B1 : Hid _ := below_from H0.out.2.2 b1 H0.out.2.2.size; have c25' := (b1.cell (block_lt_of_cell c25)).trans c25; have d25' := (b1.cell (block_lt_of_cell d25)).trans d25)
    | (go_at_call 35; refine (HN.out _ B1.out).mono ?_; rintro e w2 ⟨rfl, b2⟩))
  go_ret
  exact ⟨rfl, below_from B1.out b2 B1.out.size⟩
theorem same17 (p q : PL) (j : JB) (s : SL) (L : JL) (N : List ByteArray) (w : World) (hq : q = { p with jb := j, ns := s }) (h1 : p.jb.has w L) (h2 : j.has w L) (hl : p.jb.like j) (hf : Fits j L)
    (n1 : SLh w p.ns N.length (textsV N)) (n2 : SLh w s N.length (textsV N)) (hN : N.length < 1152921504606846976) :
    Calls Try.prog 17 #[.agg p.cells, .agg q.cells] w fun e w' => e = .returned (.bool true) ∧ Below w.heap.size w w' := by
  refine same17_at p q j s w hq (fun W b => sameJob p.jb j L W (h1.keep b (Nat.le_refl _)) (h2.keep b (Nat.le_refl _)) hl hf) (fun W b => ?_)
  have := sameTexts N p.ns.a s.a p.ns.c s.c W hN (n1.1.keep b (Nat.le_refl _)) (n2.1.keep b (Nat.le_refl _))
  rw [n1.2.1, n2.2.1]
  exact this
end Go.Proofs.Ytnkkiepoljbhlaa

set_option linter.unusedSimpArgs false
namespace Go.Proofs.Ytnkkiepoljbhlaa
open Go.RowKit

/-- behind both calls of Decode -/
def Sx (w : World) (g : Nat) (q : PL) (B : World → Prop) (W : World) : Prop := Below w.heap.size w W ∧ W.heap[g]? = some (.cells q.cells 32 (0, 0)) ∧ B W
theorem Sx.range {w W : World} {g : Nat} {q : PL} {B : World → Prop} (h : Sx w g q B W) : W.rangeAt g 0 q.cells.toList := fun j v hv => by
  rw [Nat.zero_add, cell_of_row _ _ j _ 32 (0, 0) h.2.1]
  simpa using hv
set_option maxHeartbeats 4000000 in
set_option maxRecDepth 100000 in
theorem law_dec0 (a : Option Addr) (n c : Nat) (w : World) (A : Value → World → Prop) (B : Value → PL → World → Prop) (C : PL → PL → World → Prop)
    (H15 : ∀ W, Below w.heap.size w W → Calls Try.prog 15 #[.slice a n c] W fun e w' => ∃ r : Value, e = .returned (.tuple #[r, .int .i64 0]) ∧ A r w' ∧ Below W.heap.size W w')
    (H16 : ∀ r W, Below w.heap.size w W → A r W → Calls Try.prog 16 #[.slice a n c] W fun e w' => ∃ q : PL, e = .returned (.tuple #[.agg q.cells, .int .i64 0]) ∧ B r q w' ∧ Below W.heap.size W w')
    (HB : ∀ r q W W', B r q W → Below W.heap.size W W' → B r q W')
    (H9 : ∀ r q W, B r q W → Calls Try.prog 9 #[r] W fun e w' => ∃ p : PL, e = .returned (.agg p.cells) ∧ C p q w' ∧ Below W.heap.size W w')
    (H17 : ∀ p q W, C p q W → Calls Try.prog 17 #[.agg p.cells, .agg q.cells] W fun e w' => e = .returned (.bool true) ∧ Below W.heap.size W w') :
    Calls Try.prog 4 #[.slice a n c] w fun e w' => e = .returned (.bool true) ∧ Below w.heap.size w w' := by
  have K15 : Hid (∀ W, Below w.heap.size w W → Calls Try.prog 15 #[.slice a n c] W fun e w' => ∃ r : Value, e = .returned (.tuple #[r, .int .i64 0]) ∧ Hid (A r w' ∧ Below W.heap.size W w')) := H15
  have K16 : Hid (∀ r W, Below w.heap.size w W → A r W → Calls Try.prog 16 #[.slice a n c] W fun e w' => ∃ q : PL, e = .returned (.tuple #[.agg q.cells, .int .i64 0]) ∧ Hid (B r q w' ∧ Below W.heap.size W w')) := H16
  have KB : Hid (∀ r q W W', B r q W → Below W.heap.size W W' → B r q W') := HB
  have KS : Hid (∀ g r q W W', Sx w g q (B r q) W → Below W.heap.size W W' → Sx w g q (B r q) W') := fun g r q W W' h b => ⟨below_from h.1 b h.1.size, at_below b (Nat.le_refl _) h.2.1, HB _ _ _ _ h.2.2 b⟩
  have K9 : Hid (∀ g r q W, Hid (Sx w g q (B r q) W) → Calls Try.prog 9 #[r] W fun e w' => ∃ p : PL, e = .returned (.agg p.cells) ∧ Hid (C p q w' ∧ Sx w g q (B r q) w')) := fun g r q W h => (H9 r q W h.out.2.2).mono fun e w' ⟨p, h1, h2, h3⟩ => ⟨p, h1, h2, KS.out g r q _ _ h.out h3⟩
  have K17 : Hid (∀ g r p q W, Hid (C p q W ∧ Sx w g q (B r q) W) → Calls Try.prog 17 #[.agg p.cells, .agg q.cells] W fun e w' => e = .returned (.bool true) ∧ Hid (Sx w g q (B r q) w')) := fun g r p q W h => (H17 p q W h.out.1).mono fun e w' ⟨h1, h3⟩ => ⟨h1, KS.out g r q _ _ h.out.2 h3⟩
  clear H15 H16 HB H9 H17
  go_enter Try.func4, Try.ntmps4
  go_upto_region 3 with (go_at_call 7; refine (awake_any _).mono ?_; rintro e w1 ⟨rfl, b1⟩)
  have y1 : Hid (Below w.heap.size w w1) := b1
  clear b1
  go_upto_region 4 with (go_at_call 15; refine (K15.out _ y1.out).mono ?_; rintro e w2 ⟨r, rfl, o2⟩)
  have y2 : Hid (Below w.heap.size w w2) := below_from y1.out o2.out.2 y1.out.size
  go_upto_region 5 with (first
    | (go_at_call 16; refine (K16.out _ _ y2.out o2.out.1).mono ?_; rintro e w3 ⟨q, rfl, o3⟩)
    | refine wpList_store_rowTo rfl 32 _ _ rfl rfl w3.heap.size q.cells rfl rfl 32 _ new0 (size32p q) rfl (PL.cells_one q) ?_)
  have X0 : Hid (Sx w w3.heap.size q (B r q) ((w3.alloc (Obj.cells PL.zero.cells 32)).setRow w3.heap.size q.cells)) := by
    have hb : Below w3.heap.size w3 ((w3.alloc (Obj.cells PL.zero.cells 32)).setRow w3.heap.size q.cells) := below_setRow ((Below.refl _ w3).alloc (Nat.le_refl _) _) (Nat.le_refl _)
    have y3 : Below w.heap.size w w3 := below_from y2.out o3.out.2 y2.out.size
    exact ⟨below_from y3 hb y3.size, setRow_heap _ _ _ _ 32 (0, 0) new0, KB.out _ _ _ _ o3.out.1 hb⟩
  refine (?_ : ∀ g W, Hid (g = w3.heap.size ∧ Sx w w3.heap.size q (B r q) W) → Code.wp Try.prog _ _ _ W) w3.heap.size _ ⟨rfl, X0.out⟩
  clear X0 y1 y2 o2 o3
  intro g0 W5 XX
  have X0 : Hid (Sx w w3.heap.size q (B r q) W5) := XX.out.2
  have X1 : Hid (Sx w w3.heap.size q (B r q) W5.drew) := KS.out _ _ _ _ _ X0.out (below_drewN (Below.refl _ W5) 1)
  clear X0 XX g0
  have hi32 : (Try.prog.info? 32).map (·.size) = some q.cells.toList.length := by rw [Array.length_toList]; exact size32p q
  refine wp_region_held_drew (S := Sx w w3.heap.size q (B r q)) (by kernel_rfl) X1.out (fun h0 => ?_)
  refine wpAnyH_take (i := 0) (v := (.int .i64 0)) rfl (by kernel_rfl) (by kernel_rfl) (by kernel_rfl) (fun _ _ _ h => h) (Or.inl ⟨by rfl, fun w hSw => ?_⟩) h0 ?_
  next => (clear hSw; first | rfl | go_simp)
  simp only [Act.put, List.setIfInBounds_toArray, List.set_cons_zero, List.set_cons_succ, List.getElem_toArray, List.getElem_cons_succ, List.getElem_cons_zero]
  refine wpAnyH_take (i := 1) (v := (.int .i64 0)) rfl (by kernel_rfl) (by kernel_rfl) (by kernel_rfl) (fun _ _ _ h => h) (Or.inl ⟨by rfl, fun w hSw => ?_⟩) h0 ?_
  next => (clear hSw; first | rfl | go_simp)
  simp only [Act.put, List.setIfInBounds_toArray, List.set_cons_zero, List.set_cons_succ, List.getElem_toArray, List.getElem_cons_succ, List.getElem_cons_zero]
  refine wpAnyH_take (i := 2) (v := (.bool true)) rfl (by kernel_rfl) (by kernel_rfl) (by kernel_rfl) (fun _ _ _ h => h) (Or.inl ⟨by rfl, fun w hSw => ?_⟩) h0 ?_
  next => (clear hSw; first | rfl | go_simp)
  simp only [Act.put, List.setIfInBounds_toArray, List.set_cons_zero, List.set_cons_succ, List.getElem_toArray, List.getElem_cons_succ, List.getElem_cons_zero]
  refine wpAnyH_take (i := 3) (v := (.bool true)) rfl (by kernel_rfl) (by kernel_rfl) (by kernel_rfl) (fun _ _ _ h => h) (Or.inl ⟨by rfl, fun w hSw => ?_⟩) h0 ?_
  next => (clear hSw; first | rfl | go_simp)
  simp only [Act.put, List.setIfInBounds_toArray, List.set_cons_zero, List.set_cons_succ, List.getElem_toArray, List.getElem_cons_succ, List.getElem_cons_zero]
  refine wpAnyH_take (i := 4) (v := r) rfl (by kernel_rfl) (by kernel_rfl) (by kernel_rfl) (fun _ _ _ h => h) (Or.inl ⟨by rfl, fun w hSw => ?_⟩) h0 ?_
  next => (clear hSw; first | rfl | go_simp)
  simp only [Act.put, List.setIfInBounds_toArray, List.set_cons_zero, List.set_cons_succ, List.getElem_toArray, List.getElem_cons_succ, List.getElem_cons_zero]
  refine wpAnyH_take (i := 6) (v := .agg q.cells.toList.toArray) rfl (by kernel_rfl) (by kernel_rfl) (by kernel_rfl) (fun _ _ _ h => h) (yieldsIf_load_mid (by rfl) _ _ rfl _ _ rfl q.cells.toList _ (fun _ h => Sx.range h) Try.underlying32 rfl hi32) h0 ?_
  simp only [Array.toArray_toList, Act.put, List.setIfInBounds_toArray, List.set_cons_zero, List.set_cons_succ, List.getElem_toArray, List.getElem_cons_succ, List.getElem_cons_zero]
  refine wpAnyH_ready (rs := [5]) (by kernel_rfl) (by simp) (AllReadyH.cons rfl (fun K hK => ?_) AllReadyH.nil)
  go_simp
  go_at_call 9
  refine (K9.out _ _ _ _ X1).mono ?_
  rintro e w8 ⟨p, rfl, X2⟩
  go_wp2_with fail
  refine hK.out _ _ X2.out.2 (fun h1 => ?_)
  clear hK K
  try simp only [Act.put, List.setIfInBounds_toArray, List.set_cons_zero, List.set_cons_succ, List.getElem_toArray, List.getElem_cons_succ, List.getElem_cons_zero]
  refine wpAnyH_ready (rs := [7]) (by kernel_rfl) (by simp) (AllReadyH.cons rfl (fun K hK => ?_) AllReadyH.nil)
  go_simp
  go_at_call 17
  refine (K17.out _ _ _ _ _ X2).mono ?_
  rintro e w9 ⟨rfl, X3⟩
  go_wp2_with fail
  refine hK.out _ _ X3.out (fun h2 => ?_)
  clear hK K
  try simp only [Act.put, List.setIfInBounds_toArray, List.set_cons_zero, List.set_cons_succ, List.getElem_toArray, List.getElem_cons_succ, List.getElem_cons_zero]
  refine wpAnyH_take (i := 8) (v := (.bool true)) rfl (by kernel_rfl) (by kernel_rfl) (by kernel_rfl) (fun _ _ _ h => h) (Or.inl ⟨by rfl, fun w hSw => ?_⟩) h2 ?_
  next => (clear hSw; first | rfl | go_simp)
  simp only [Act.put, List.setIfInBounds_toArray, List.set_cons_zero, List.set_cons_succ, List.getElem_toArray, List.getElem_cons_succ, List.getElem_cons_zero]
  refine wpAnyH_take (i := 9) (v := (.bool true)) rfl (by kernel_rfl) (by kernel_rfl) (by kernel_rfl) (fun _ _ _ h => h) (Or.inl ⟨by rfl, fun w hSw => ?_⟩) h2 ?_
  next => (clear hSw; first | rfl | go_simp)
  simp only [Act.put, List.setIfInBounds_toArray, List.set_cons_zero, List.set_cons_succ, List.getElem_toArray, List.getElem_cons_succ, List.getElem_cons_zero]
  refine wpAnyH_take (i := 10) (v := (.int .i64 0)) rfl (by kernel_rfl) (by kernel_rfl) (by kernel_rfl) (fun _ _ _ h => h) (Or.inl ⟨by rfl, fun w hSw => ?_⟩) h2 ?_
  next => (clear hSw; first | rfl | go_simp)
  simp only [Act.put, List.setIfInBounds_toArray, List.set_cons_zero, List.set_cons_succ, List.getElem_toArray, List.getElem_cons_succ, List.getElem_cons_zero]
  refine wpAnyH_take (i := 11) (v := (.bool true)) rfl (by kernel_rfl) (by kernel_rfl) (by kernel_rfl) (fun _ _ _ h => h) (Or.inl ⟨by rfl, fun w hSw => ?_⟩) h2 ?_
  next => (clear hSw; first | rfl | go_simp)
  simp only [Act.put, List.setIfInBounds_toArray, List.set_cons_zero, List.set_cons_succ, List.getElem_toArray, List.getElem_cons_succ, List.getElem_cons_zero]
  refine wpAnyH_take (i := 12) (v := (.bool true)) rfl (by kernel_rfl) (by kernel_rfl) (by kernel_rfl) (fun _ _ _ h => h) (Or.inl ⟨by rfl, fun w hSw => ?_⟩) h2 ?_
  next => (clear hSw; first | rfl | go_simp)
  simp only [Act.put, List.setIfInBounds_toArray, List.set_cons_zero, List.set_cons_succ, List.getElem_toArray, List.getElem_cons_succ, List.getElem_cons_zero]
  refine wpAnyH_take (i := 13) (v := undef) rfl (by kernel_rfl) (by kernel_rfl) (by kernel_rfl) (fun _ _ _ h => h) (Or.inr ⟨by rfl, rfl⟩) h2 ?_
  simp only [Act.put, List.setIfInBounds_toArray, List.set_cons_zero, List.set_cons_succ, List.getElem_toArray, List.getElem_cons_succ, List.getElem_cons_zero]
  refine wpAnyH_take (i := 14) (v := undef) rfl (by kernel_rfl) (by kernel_rfl) (by kernel_rfl) (fun _ _ _ h => h) (Or.inr ⟨by rfl, rfl⟩) h2 ?_
  simp only [Act.put, List.setIfInBounds_toArray, List.set_cons_zero, List.set_cons_succ, List.getElem_toArray, List.getElem_cons_succ, List.getElem_cons_zero]
  refine wpAnyH_take (i := 15) (v := (.bool true)) rfl (by kernel_rfl) (by kernel_rfl) (by kernel_rfl) (fun _ _ _ h => h) (Or.inl ⟨by rfl, fun w hSw => ?_⟩) h2 ?_
  next => (clear hSw; first | rfl | go_simp)
  simp only [Act.put, List.setIfInBounds_toArray, List.set_cons_zero, List.set_cons_succ, List.getElem_toArray, List.getElem_cons_succ, List.getElem_cons_zero]
  refine wpAnyH_take (i := 16) (v := (.bool true)) rfl (by kernel_rfl) (by kernel_rfl) (by kernel_rfl) (fun _ _ _ h => h) (Or.inl ⟨by rfl, fun w hSw => ?_⟩) h2 ?_
  next => (clear hSw; first | rfl | go_simp)
  simp only [Act.put, List.setIfInBounds_toArray, List.set_cons_zero, List.set_cons_succ, List.getElem_toArray, List.getElem_cons_succ, List.getElem_cons_zero]
  refine wpAnyH_take (i := 17) (v := (.bool true)) rfl (by kernel_rfl) (by kernel_rfl) (by kernel_rfl) (fun _ _ _ h => h) (Or.inl ⟨by rfl, fun w hSw => ?_⟩) h2 ?_
  next => (clear hSw; first | rfl | go_simp)
  simp only [Act.put, List.setIfInBounds_toArray, List.set_cons_zero, List.set_cons_succ, List.getElem_toArray, List.getElem_cons_succ, List.getElem_cons_zero]
  refine wpAnyH_done (by kernel_rfl) ?_ _
  go_wp2_with fail
  go_ret
  exact ⟨rfl, X3.out.1⟩
set_option maxHeartbeats 4000000 in
set_option maxRecDepth 100000 in
theorem law_dec12 (a : Option Addr) (n c : Nat) (w : World) (A : Value → World → Prop) (B : Value → PL → World → Prop) (C : PL → PL → World → Prop)
    (H15 : ∀ W, Below w.heap.size w W → Calls Try.prog 15 #[.slice a n c] W fun e w' => e = .returned (.tuple #[.nilIface, .int .i64 12]) ∧ A .nilIface w' ∧ Below W.heap.size W w')
    (H16 : ∀ r W, Below w.heap.size w W → A r W → Calls Try.prog 16 #[.slice a n c] W fun e w' => ∃ q : PL, e = .returned (.tuple #[.agg q.cells, .int .i64 12]) ∧ B r q w' ∧ Below W.heap.size W w')
    (HB : ∀ r q W W', B r q W → Below W.heap.size W W' → B r q W')
    (H9 : ∀ r q W, B r q W → Calls Try.prog 9 #[r] W fun e w' => ∃ p : PL, e = .returned (.agg p.cells) ∧ C p q w' ∧ Below W.heap.size W w')
    (H17 : ∀ p q W, C p q W → Calls Try.prog 17 #[.agg p.cells, .agg q.cells] W fun e w' => e = .returned (.bool true) ∧ Below W.heap.size W w') :
    Calls Try.prog 4 #[.slice a n c] w fun e w' => e = .returned (.bool true) ∧ Below w.heap.size w w' := by
  have K15 : Hid (∀ W, Below w.heap.size w W → Calls Try.prog 15 #[.slice a n c] W fun e w' => e = .returned (.tuple #[.nilIface, .int .i64 12]) ∧ Hid (A .nilIface w' ∧ Below W.heap.size W w')) := H15
  have K16 : Hid (∀ r W, Below w.heap.size w W → A r W → Calls Try.prog 16 #[.slice a n c] W fun e w' => ∃ q : PL, e = .returned (.tuple #[.agg q.cells, .int .i64 12]) ∧ Hid (B r q w' ∧ Below W.heap.size W w')) := H16
  have KB : Hid (∀ r q W W', B r q W → Below W.heap.size W W' → B r q W') := HB
  have KS : Hid (∀ g r q W W', Sx w g q (B r q) W → Below W.heap.size W W' → Sx w g q (B r q) W') := fun g r q W W' h b => ⟨below_from h.1 b h.1.size, at_below b (Nat.le_refl _) h.2.1, HB _ _ _ _ h.2.2 b⟩
  have K9 : Hid (∀ g r q W, Hid (Sx w g q (B r q) W) → Calls Try.prog 9 #[r] W fun e w' => ∃ p : PL, e = .returned (.agg p.cells) ∧ Hid (C p q w' ∧ Sx w g q (B r q) w')) := fun g r q W h => (H9 r q W h.out.2.2).mono fun e w' ⟨p, h1, h2, h3⟩ => ⟨p, h1, h2, KS.out g r q _ _ h.out h3⟩
  have K17 : Hid (∀ g r p q W, Hid (C p q W ∧ Sx w g q (B r q) W) → Calls Try.prog 17 #[.agg p.cells, .agg q.cells] W fun e w' => e = .returned (.bool true) ∧ Hid (Sx w g q (B r q) w')) := fun g r p q W h => (H17 p q W h.out.1).mono fun e w' ⟨h1, h3⟩ => ⟨h1, KS.out g r q _ _ h.out.2 h3⟩
  clear H15 H16 HB H9 H17
  go_enter Try.func4, Try.ntmps4
  go_upto_region 3 with (go_at_call 7; refine (awake_any _).mono ?_; rintro e w1 ⟨rfl, b1⟩)
  have y1 : Hid (Below w.heap.size w w1) := b1
  clear b1
  go_upto_region 4 with (go_at_call 15; refine (K15.out _ y1.out).mono ?_; rintro e w2 ⟨rfl, o2⟩)
  have y2 : Hid (Below w.heap.size w w2) := below_from y1.out o2.out.2 y1.out.size
  go_upto_region 5 with (first
    | (go_at_call 16; refine (K16.out _ _ y2.out o2.out.1).mono ?_; rintro e w3 ⟨q, rfl, o3⟩)
    | refine wpList_store_rowTo rfl 32 _ _ rfl rfl w3.heap.size q.cells rfl rfl 32 _ new0 (size32p q) rfl (PL.cells_one q) ?_)
  have X0 : Hid (Sx w w3.heap.size q (B .nilIface q) ((w3.alloc (Obj.cells PL.zero.cells 32)).setRow w3.heap.size q.cells)) := by
    have hb : Below w3.heap.size w3 ((w3.alloc (Obj.cells PL.zero.cells 32)).setRow w3.heap.size q.cells) := below_setRow ((Below.refl _ w3).alloc (Nat.le_refl _) _) (Nat.le_refl _)
    have y3 : Below w.heap.size w w3 := below_from y2.out o3.out.2 y2.out.size
    exact ⟨below_from y3 hb y3.size, setRow_heap _ _ _ _ 32 (0, 0) new0, KB.out _ _ _ _ o3.out.1 hb⟩
  refine (?_ : ∀ g W, Hid (g = w3.heap.size ∧ Sx w w3.heap.size q (B .nilIface q) W) → Code.wp Try.prog _ _ _ W) w3.heap.size _ ⟨rfl, X0.out⟩
  clear X0 y1 y2 o2 o3
  intro g0 W5 XX
  have X0 : Hid (Sx w w3.heap.size q (B .nilIface q) W5) := XX.out.2
  have X1 : Hid (Sx w w3.heap.size q (B .nilIface q) W5.drew) := KS.out _ _ _ _ _ X0.out (below_drewN (Below.refl _ W5) 1)
  clear X0 XX g0
  have hi32 : (Try.prog.info? 32).map (·.size) = some q.cells.toList.length := by rw [Array.length_toList]; exact size32p q
  refine wp_region_held_drew (S := Sx w w3.heap.size q (B .nilIface q)) (by kernel_rfl) X1.out (fun h0 => ?_)
  refine wpAnyH_take (i := 0) (v := (.int .i64 12)) rfl (by kernel_rfl) (by kernel_rfl) (by kernel_rfl) (fun _ _ _ h => h) (Or.inl ⟨by rfl, fun w hSw => ?_⟩) h0 ?_
  next => (clear hSw; first | rfl | go_simp)
  simp only [Act.put, List.setIfInBounds_toArray, List.set_cons_zero, List.set_cons_succ, List.getElem_toArray, List.getElem_cons_succ, List.getElem_cons_zero]
  refine wpAnyH_take (i := 1) (v := (.int .i64 12)) rfl (by kernel_rfl) (by kernel_rfl) (by kernel_rfl) (fun _ _ _ h => h) (Or.inl ⟨by rfl, fun w hSw => ?_⟩) h0 ?_
  next => (clear hSw; first | rfl | go_simp)
  simp only [Act.put, List.setIfInBounds_toArray, List.set_cons_zero, List.set_cons_succ, List.getElem_toArray, List.getElem_cons_succ, List.getElem_cons_zero]
  refine wpAnyH_take (i := 2) (v := (.bool true)) rfl (by kernel_rfl) (by kernel_rfl) (by kernel_rfl) (fun _ _ _ h => h) (Or.inl ⟨by rfl, fun w hSw => ?_⟩) h0 ?_
  next => (clear hSw; first | rfl | go_simp)
  simp only [Act.put, List.setIfInBounds_toArray, List.set_cons_zero, List.set_cons_succ, List.getElem_toArray, List.getElem_cons_succ, List.getElem_cons_zero]
  refine wpAnyH_take (i := 3) (v := (.bool true)) rfl (by kernel_rfl) (by kernel_rfl) (by kernel_rfl) (fun _ _ _ h => h) (Or.inl ⟨by rfl, fun w hSw => ?_⟩) h0 ?_
  next => (clear hSw; first | rfl | go_simp)
  simp only [Act.put, List.setIfInBounds_toArray, List.set_cons_zero, List.set_cons_succ, List.getElem_toArray, List.getElem_cons_succ, List.getElem_cons_zero]
  refine wpAnyH_take (i := 4) (v := .nilIface) rfl (by kernel_rfl) (by kernel_rfl) (by kernel_rfl) (fun _ _ _ h => h) (Or.inl ⟨by rfl, fun w hSw => ?_⟩) h0 ?_
  next => (clear hSw; first | rfl | go_simp)
  simp only [Act.put, List.setIfInBounds_toArray, List.set_cons_zero, List.set_cons_succ, List.getElem_toArray, List.getElem_cons_succ, List.getElem_cons_zero]
  refine wpAnyH_take (i := 6) (v := .agg q.cells.toList.toArray) rfl (by kernel_rfl) (by kernel_rfl) (by kernel_rfl) (fun _ _ _ h => h) (yieldsIf_load_mid (by rfl) _ _ rfl _ _ rfl q.cells.toList _ (fun _ h => Sx.range h) Try.underlying32 rfl hi32) h0 ?_
  simp only [Array.toArray_toList, Act.put, List.setIfInBounds_toArray, List.set_cons_zero, List.set_cons_succ, List.getElem_toArray, List.getElem_cons_succ, List.getElem_cons_zero]
  refine wpAnyH_ready (rs := [5]) (by kernel_rfl) (by simp) (AllReadyH.cons rfl (fun K hK => ?_) AllReadyH.nil)
  go_simp
  go_at_call 9
  refine (K9.out _ _ _ _ X1).mono ?_
  rintro e w8 ⟨p, rfl, X2⟩
  go_wp2_with fail
  refine hK.out _ _ X2.out.2 (fun h1 => ?_)
  clear hK K
  try simp only [Act.put, List.setIfInBounds_toArray, List.set_cons_zero, List.set_cons_succ, List.getElem_toArray, List.getElem_cons_succ, List.getElem_cons_zero]
  refine wpAnyH_ready (rs := [7]) (by kernel_rfl) (by simp) (AllReadyH.cons rfl (fun K hK => ?_) AllReadyH.nil)
  go_simp
  go_at_call 17
  refine (K17.out _ _ _ _ _ X2).mono ?_
  rintro e w9 ⟨rfl, X3⟩
  go_wp2_with fail
  refine hK.out _ _ X3.out (fun h2 => ?_)
  clear hK K
  try simp only [Act.put, List.setIfInBounds_toArray, List.set_cons_zero, List.set_cons_succ, List.getElem_toArray, List.getElem_cons_succ, List.getElem_cons_zero]
  refine wpAnyH_take (i := 8) (v := (.bool true)) rfl (by kernel_rfl) (by kernel_rfl) (by kernel_rfl) (fun _ _ _ h => h) (Or.inl ⟨by rfl, fun w hSw => ?_⟩) h2 ?_
  next => (clear hSw; first | rfl | go_simp)
  simp only [Act.put, List.setIfInBounds_toArray, List.set_cons_zero, List.set_cons_succ, List.getElem_toArray, List.getElem_cons_succ, List.getElem_cons_zero]
  refine wpAnyH_take (i := 9) (v := (.bool true)) rfl (by kernel_rfl) (by kernel_rfl) (by kernel_rfl) (fun _ _ _ h => h) (Or.inl ⟨by rfl, fun w hSw => ?_⟩) h2 ?_
  next => (clear hSw; first | rfl | go_simp)
  simp only [Act.put, List.setIfInBounds_toArray, List.set_cons_zero, List.set_cons_succ, List.getElem_toArray, List.getElem_cons_succ, List.getElem_cons_zero]
  refine wpAnyH_take (i := 10) (v := (.int .i64 12)) rfl (by kernel_rfl) (by kernel_rfl) (by kernel_rfl) (fun _ _ _ h => h) (Or.inl ⟨by rfl, fun w hSw => ?_⟩) h2 ?_
  next => (clear hSw; first | rfl | go_simp)
  simp only [Act.put, List.setIfInBounds_toArray, List.set_cons_zero, List.set_cons_succ, List.getElem_toArray, List.getElem_cons_succ, List.getElem_cons_zero]
  refine wpAnyH_take (i := 11) (v := (.bool false)) rfl (by kernel_rfl) (by kernel_rfl) (by kernel_rfl) (fun _ _ _ h => h) (Or.inl ⟨by rfl, fun w hSw => ?_⟩) h2 ?_
  next => (clear hSw; first | rfl | go_simp)
  simp only [Act.put, List.setIfInBounds_toArray, List.set_cons_zero, List.set_cons_succ, List.getElem_toArray, List.getElem_cons_succ, List.getElem_cons_zero]
  refine wpAnyH_take (i := 12) (v := (.bool false)) rfl (by kernel_rfl) (by kernel_rfl) (by kernel_rfl) (fun _ _ _ h => h) (Or.inl ⟨by rfl, fun w hSw => ?_⟩) h2 ?_
  next => (clear hSw; first | rfl | go_simp)
  simp only [Act.put, List.setIfInBounds_toArray, List.set_cons_zero, List.set_cons_succ, List.getElem_toArray, List.getElem_cons_succ, List.getElem_cons_zero]
  refine wpAnyH_take (i := 13) (v := .nilIface) rfl (by kernel_rfl) (by kernel_rfl) (by kernel_rfl) (fun _ _ _ h => h) (Or.inl ⟨by rfl, fun w hSw => ?_⟩) h2 ?_
  next => (clear hSw; first | rfl | go_simp)
  simp only [Act.put, List.setIfInBounds_toArray, List.set_cons_zero, List.set_cons_succ, List.getElem_toArray, List.getElem_cons_succ, List.getElem_cons_zero]
  refine wpAnyH_take (i := 14) (v := (.bool true)) rfl (by kernel_rfl) (by kernel_rfl) (by kernel_rfl) (fun _ _ _ h => h) (Or.inl ⟨by rfl, fun w hSw => ?_⟩) h2 ?_
  next => (clear hSw; first | rfl | go_simp)
  simp only [Act.put, List.setIfInBounds_toArray, List.set_cons_zero, List.set_cons_succ, List.getElem_toArray, List.getElem_cons_succ, List.getElem_cons_zero]
  refine wpAnyH_take (i := 15) (v := (.bool true)) rfl (by kernel_rfl) (by kernel_rfl) (by kernel_rfl) (fun _ _ _ h => h) (Or.inl ⟨by rfl, fun w hSw => ?_⟩) h2 ?_
  next => (clear hSw; first | rfl | go_simp)
  simp only [Act.put, List.setIfInBounds_toArray, List.set_cons_zero, List.set_cons_succ, List.getElem_toArray, List.getElem_cons_succ, List.getElem_cons_zero]
  refine wpAnyH_take (i := 16) (v := (.bool true)) rfl (by kernel_rfl) (by kernel_rfl) (by kernel_rfl) (fun _ _ _ h => h) (Or.inl ⟨by rfl, fun w hSw => ?_⟩) h2 ?_
  next => (clear hSw; first | rfl | go_simp)
  simp only [Act.put, List.setIfInBounds_toArray, List.set_cons_zero, List.set_cons_succ, List.getElem_toArray, List.getElem_cons_succ, List.getElem_cons_zero]
  refine wpAnyH_take (i := 17) (v := (.bool true)) rfl (by kernel_rfl) (by kernel_rfl) (by kernel_rfl) (fun _ _ _ h => h) (Or.inl ⟨by rfl, fun w hSw => ?_⟩) h2 ?_
  next => (clear hSw; first | rfl | go_simp)
  simp only [Act.put, List.setIfInBounds_toArray, List.set_cons_zero, List.set_cons_succ, List.getElem_toArray, List.getElem_cons_succ, List.getElem_cons_zero]
  refine wpAnyH_done (by kernel_rfl) ?_ _
  go_wp2_with fail
  go_ret
  exact ⟨rfl, X3.out.1⟩
end Go.Proofs.Ytnkkiepoljbhlaa

namespace Go.Proofs.Ytnkkiepoljbhlaa
open Go.RowKit

theorem Byt.on {w W : World} {p : Option Addr} {c : Nat} {l : List UInt8} (h : Byt w w.heap.size p c l) (b : Below w.heap.size w W) : Byt W W.heap.size p c l := by
  refine ⟨?_, h.nc, fun a e => ?_, h.cm⟩
  · rcases h.ly with e | ⟨g, o, e, hr⟩
    · exact .inl e
    · exact .inr ⟨g, o, e, hr.keep b (Nat.le_refl _)⟩
  · have := h.bl a e
    exact ⟨Nat.lt_of_lt_of_le this.1 b.size, this.2⟩
/-- two records without lists are the same -/
theorem same_plain (p : PL) (hj : p.jb = .zero) (hn : p.ns = .nil) (w : World) : Calls Try.prog 17 #[.agg p.cells, .agg p.cells] w fun e w' => e = .returned (.bool true) ∧ Below w.heap.size w w' :=
  same17 p p .zero .nil .nil [] w (by rw [← hj, ← hn]) (by rw [hj]; exact zero_has w) (zero_has w) (by rw [hj]; exact ⟨rfl, rfl, rfl, rfl, rfl, rfl, rfl⟩) zero_fits (by rw [hn]; exact ⟨.inl rfl, rfl, fun _ => ⟨rfl, rfl, rfl⟩⟩) ⟨.inl rfl, rfl, fun _ => ⟨rfl, rfl, rfl⟩⟩ (by decide)
/-- what a strict reader reads to the end, against what was read -/
theorem OneX.all {α : Type} {D : List UInt8 → Option (α × List UInt8)} {l : List UInt8} {x y : α} {k : Nat} {b : Bool} (h : OneX D l 1 false y k b) (hD : D (l.drop 1) = some (x, [])) (hk : k ≤ l.length) : y = x ∧ k = l.length ∧ b = false := by
  rcases h with ⟨h1, h2, -⟩ | ⟨-, h1⟩
  · rw [hD] at h1
    have h3 := congrArg (fun o : Option (α × List UInt8) => o.map (·.1)) h1
    have h4 := congrArg (fun o : Option (α × List UInt8) => o.map (·.2)) h1
    simp only [Option.map_some, Option.some.injEq] at h3 h4
    have h5 := congrArg List.length h4
    rw [List.length_drop, List.length_nil] at h5
    exact ⟨h3.symm, by omega, h2⟩
  · rcases h1 with q | q
    · cases q
    · rw [hD] at q; cases q
theorem OneX.done {α : Type} {D : List UInt8 → Option (α × List UInt8)} {l : List UInt8} {x : α} (h : OneX D l 1 false x l.length false) : D (l.drop 1) = some (x, []) := by
  have := h.good.1
  rw [List.drop_length] at this
  exact this
section
variable {α : Type} (w : World) (a : Option Addr) (c : Nat) (l : List UInt8) (kd : UInt8) (kn : Nat) (D : List UInt8 → Option (α × List UInt8)) (P : α → PL) (F : α → Bool) (x0 : PL) (st : Option (List UInt8)) (ok : Bool)
theorem kind_law (hB : Byt w w.heap.size a c l) (h0 : l[0]? = some kd) (hkn : kd.toNat = kn) (hk : 1 ≤ kn ∧ kn ≤ 11)
    (HRec : ∀ rb W, Rd W rb (some l) → Calls Try.prog 33 #[.pointer (some ⟨rb, 0, none⟩)] W fun e w' => e = .returned (x0.rcd kn) ∧ Hid (Rd w' rb st ∧ RdK rb W w'))
    (HF15 : ∀ W, Calls Try.prog 21 #[x0.rcd kn] W fun e w' => e = .returned (.bool ok) ∧ Below W.heap.size W w')
    (HPl : ∀ rb W, Rf W rb l 1 false → 1 ≤ l.length → Calls Try.prog 34 #[.pointer (some ⟨rb, 0, none⟩), .int .i64 (kn : Nat)] W fun e w' => PlR W rb l 1 false D P e w')
    (HF16 : ∀ x W, D (l.drop 1) = some (x, []) → Calls Try.prog 14 #[.agg (P x).cells] W fun e w' => e = .returned (.bool (F x)) ∧ Below W.heap.size W w')
    (HE1 : st = some [] → ok = true → ∃ x, D (l.drop 1) = some (x, []) ∧ F x = true ∧ P x = x0)
    (HE2 : ∀ x, D (l.drop 1) = some (x, []) → F x = true → st = some [] ∧ ok = true)
    (HPn : ∀ W, Calls Try.prog 9 #[x0.rcd kn] W fun e w' => e = .returned (.agg (x0.norm kn).cells) ∧ Below W.heap.size W w')
    (hno : x0.norm kn = x0) (hj : x0.jb = .zero) (hn : x0.ns = .nil) :
    Calls Try.prog 4 #[.slice a l.length c] w fun e w' => e = .returned (.bool true) ∧ Below w.heap.size w w' := by
  have hl : 1 ≤ l.length := (List.getElem?_eq_some_iff.1 h0).1
  have P15 : ∀ W, Below w.heap.size w W → Calls Try.prog 15 #[.slice a l.length c] W fun e w' => Below W.heap.size W w' ∧ ((st = some [] ∧ ok = true ∧ ∃ _x : Unit, e = .returned (.tuple #[x0.rcd kn, .int .i64 0]) ∧ True) ∨ (¬ (st = some [] ∧ ok = true) ∧ e = .returned (.tuple #[.nilIface, .int .i64 12]))) := fun W b =>
    decode_gen W a c l (hB.on b) (fun _ : Unit => x0.rcd kn) st (fun _ _ => True) ok (fun W' h1 _ => (HRec _ W' h1).mono fun e w' ⟨q1, q2⟩ => ⟨(), q1, q2.out.1, q2.out.2, trivial⟩) (fun _ W' _ => HF15 W') (fun _ _ _ _ _ => trivial)
  have P16 : ∀ W, Below w.heap.size w W → Calls Try.prog 16 #[.slice a l.length c] W fun e w' => RDec W l.length P (fun x k b _ => OneX D l 1 false x k b ∧ k ≤ l.length) F e w' := fun W b =>
    rdecode_gen W a c l kd (hB.on b) h0 (by rw [hkn]; exact hk) P (fun x k b _ => OneX D l 1 false x k b ∧ k ≤ l.length) F (fun rb W' h1 _ => by
      rw [hkn]
      refine (HPl rb W' h1 hl).mono ?_
      rintro e w' ⟨x, k, b', q1, q2, q3, q4, q5⟩
      exact ⟨x, k, b', q1, q2, q3, q4, q5, q2⟩) (fun x W' h1 => HF16 x W' h1.1.done) (fun _ _ _ _ _ h _ => h)
  by_cases hg : st = some [] ∧ ok = true
  · obtain ⟨x, hx, hF, hP⟩ := HE1 hg.1 hg.2
    refine law_dec0 a l.length c w (fun r _ => r = x0.rcd kn) (fun r q _ => r = x0.rcd kn ∧ q = x0) (fun p q _ => p = x0 ∧ q = x0) (fun W b => ?_) (fun r W b hr => ?_) (fun _ _ _ _ h _ => h) (fun r q W h => ?_) (fun p q W h => ?_)
    · refine (P15 W b).mono ?_
      rintro e w' ⟨q1, ⟨-, -, -, q2, -⟩ | ⟨q2, -⟩⟩
      · exact ⟨_, q2, rfl, q1⟩
      · exact absurd hg q2
    · refine (P16 W b).mono ?_
      rintro e w' ⟨q1, ⟨y, q2, q3, q4⟩ | ⟨⟨y, k, b', q2, q3⟩, q4⟩⟩
      · obtain ⟨rfl, -, -⟩ := q2.1.all hx q2.2
        exact ⟨P y, q4, ⟨hr, hP⟩, q1⟩
      · obtain ⟨rfl, rfl, rfl⟩ := q2.1.all hx q2.2
        exact absurd ⟨rfl, rfl, hF⟩ q3
    · obtain ⟨rfl, rfl⟩ := h
      refine (HPn W).mono ?_
      rintro e w' ⟨q1, q2⟩
      rw [hno] at q1
      exact ⟨_, q1, ⟨rfl, rfl⟩, q2⟩
    · obtain ⟨rfl, rfl⟩ := h
      exact same_plain _ hj hn W
  · refine law_dec12 a l.length c w (fun r _ => r = .nilIface) (fun r q _ => r = .nilIface ∧ q = PL.zero) (fun p q _ => p = PL.zero ∧ q = PL.zero) (fun W b => ?_) (fun r W b hr => ?_) (fun _ _ _ _ h _ => h) (fun r q W h => ?_) (fun p q W h => ?_)
    · refine (P15 W b).mono ?_
      rintro e w' ⟨q1, ⟨q2, q3, -⟩ | ⟨-, q2⟩⟩
      · exact absurd ⟨q2, q3⟩ hg
      · exact ⟨q2, rfl, q1⟩
    · refine (P16 W b).mono ?_
      rintro e w' ⟨q1, ⟨y, q2, q3, q4⟩ | ⟨-, q4⟩⟩
      · exact absurd (HE2 y q2.1.done q3) hg
      · exact ⟨PL.zero, q4, ⟨hr, rfl⟩, q1⟩
    · obtain ⟨rfl, rfl⟩ := h
      refine (plainly0 PL.zero W).mono ?_
      rintro e w' ⟨q1, q2⟩
      exact ⟨PL.zero, q1, ⟨rfl, rfl⟩, q2⟩
    · obtain ⟨rfl, rfl⟩ := h
      exact same_plain _ rfl rfl W
end
end Go.Proofs.Ytnkkiepoljbhlaa
