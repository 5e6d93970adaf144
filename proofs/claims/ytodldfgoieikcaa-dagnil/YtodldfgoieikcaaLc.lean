/-
  DagNil's law.
-/
import Derived.Test.YtodldfgoieikcaaSa
namespace Go.Proofs.Ytodldfgoieikcaa
open Go.RowKit Go.Maps

theorem ir_blk {b : Nat} {w : World} {g n c : Nat} {E : List Int} (h : IRow b w (.slice (some ⟨g, 0, none⟩) n c) E) : ∃ cur, w.heap[g]? = some (.cells cur 2 (0, 0)) := by
  rcases h.2 with ⟨e, _⟩ | ⟨g', cap, cur, e, _, hgg, _⟩
  · cases e
  · cases e; exact ⟨cur, hgg⟩
/-- numbers behind a row of numbers, wherever they lie -/
theorem append_row2 {ops : Array Oper} {rest : List Oper} {o : Oper} {a : Act} {Q : Exit → Act → World → Prop} {wr : World} {B : Nat} (hgd : o.guard = none) (s x : Operand) (ho : o.op = .call { callee := .builtin .append, args := #[s, x], argTypes := #[32, 32] }) (p : Option Addr) (m c : Nat) (E : List Int) (hs : a.eval s = .slice p m c) (hr : IRow B wr (.slice p m c) E) (hB : B ≤ wr.heap.size)
    (q : Option Addr) (n cc : Nat) (F : List Int) (hx : a.eval x = .slice q n cc) (hn : n = F.length) (hF : AI wr q F) (hz : q = none → cc = 0) (h9 : m + n ≤ 10000000000000)
    (h : ∀ p3 c3 w3, IRow B w3 (.slice p3 (m + n) c3) (E ++ F) → Below B wr w3 → wpList Try.prog ops Q rest (a.put o.dst (.slice p3 (m + n) c3)) w3) :
    wpList Try.prog ops Q (o :: rest) a wr := by
  rcases Nat.eq_zero_or_pos F.length with h0 | h0
  · cases q with
    | none => exact append_row hgd s x ho p m c E hs hr hB none n cc F hx hn hF hz (fun a e => by cases e) h9 h
    | some ad =>
      have hF0 : F = [] := List.eq_nil_of_length_eq_zero h0
      subst hF0
      simp at hn
      subst hn
      have hm := hr.len
      obtain ⟨i0, hi, hz0, hz1, hz2⟩ := info_parts info2
      refine wpList_append_own _ hgd s x 32 ho B 2 i0 (.int .i64 0) 1 8 Try.underlying32 hi hz0 hz1 hz2 rfl (by decide) (.slice p m c) m (ints E) hs (by have := hr; unfold IRow at this; rw [← hm] at this; exact this) ad 0 cc [] hx rfl (fun j u hj => by simp at hj) (fun u hu => by cases hu) (by unfold maxLen; omega) (by omega) hB fun v' w3 ho3 hg3 _ => ?_
      have R3 : IRow B w3 v' (E ++ []) := by
        unfold IRow
        rw [List.append_nil, ← hm]
        have e9 := ho3
        rw [List.append_nil] at e9
        exact e9
      have hB3 : Below B wr w3 := below_grown hg3 hB (fun g e => hr.ge e)
      obtain ⟨p3, c3, e3⟩ := R3.shape
      rw [List.append_nil, ← hm] at e3
      subst e3
      exact h p3 c3 w3 R3 hB3
  · obtain ⟨g, o', e, _⟩ := hF.some h0
    subst e
    exact append_row hgd s x ho p m c E hs hr hB _ n cc F hx hn hF hz (fun a e => by cases e; rfl) h9 h
/-- while what was handed in is made 0 -/
structure Nz (w0 w : World) (bs gb rb : Nat) (g : GS) (v : Value) (R : List JB) (p : Option Addr) (n c : Nat) (F : List Int) : Prop where
  bo : Bo w0 w bs gb rb g v R
  r : IRow w0.heap.size w (.slice p n c) F
  lt : ∀ k, (Value.slice p n c).ownBlock = some k → k < bs
set_option maxHeartbeats 4000000 in
set_option maxRecDepth 100000 in
theorem nil_law (x : Int) (q : Option Addr) (n c : Nat) (E : List Int) (w : World) (hn : n = E.length) (hE : AI w q E) (hz : q = none → c = 0) (h9 : n ≤ 9223372036854775807) :
    Calls Try.prog 8 #[.int .i64 x, .slice q n c] w fun e w' => e = .returned (.bool true) ∧ Below w.heap.size w w' := by
  have HA : Hid (∀ W, Below w.heap.size w W → Calls Try.prog 9 #[] W fun e w' => e = .returned (.bool true) ∧ Hid (Below w.heap.size w w')) := fun W b => awake_any w W b
  have HA0 : Hid (Calls Try.prog 9 #[] w fun e w' => e = .returned (.bool true) ∧ Hid (Below w.heap.size w w')) := HA.out w (Below.refl _ _)
  go_enter Try.func8, Try.ntmps8
  by_cases h2 : 300 < n
  · have h2' : decide ((300 : Int) < (n : Int)) = true := decide_eq_true (by omega)
    clear h2 hn hE hz
    go_upto_region 2 with (go_at_call 9; refine HA0.out.mono ?_; rintro e w1 ⟨rfl, b1⟩)
    go_wp2_with (go_at_call 9; refine (HA.out _ b1.out).mono ?_; rintro e w2 ⟨rfl, b2⟩)
    go_ret
    exact ⟨rfl, b2.out⟩
  have h2' : decide ((300 : Int) < (n : Int)) = false := decide_eq_false (by omega)
  have h2'' : (n : Int) ≤ 300 := by omega
  have HE : Hid (n = E.length ∧ AI w q E ∧ (q = none → c = 0) ∧ n ≤ 300) := ⟨hn, hE, hz, by omega⟩
  have N15 : Hid (∀ w, Calls Try.prog 15 #[.pointer none, .int .i64 x, .slice q n c] w fun e w' => e = .returned (.tuple #[.bool false, .int .i64 10]) ∧ w' = w) := add_nil x _
  have N16 : Hid (∀ w, Calls Try.prog 16 #[.pointer none, .int .i64 x] w fun e w' => e = .returned (.tuple #[.slice none 0 0, .int .i64 3]) ∧ w' = w) := par_nil x
  have N18 : Hid (∀ w, Calls Try.prog 18 #[.pointer none, .int .i64 x] w fun e w' => e = .returned (.tuple #[.slice none 0 0, .int .i64 3]) ∧ w' = w) := done_nil x
  have N19 : Hid (∀ w, Calls Try.prog 19 #[.pointer none, .int .i64 x] w fun e w' => e = .returned (.tuple #[.slice none 0 0, .int .i64 3]) ∧ w' = w) := fail_nil x
  have N13 : Hid (∀ w, Calls Try.prog 13 #[.pointer none, .int .i64 x] w fun e w' => e = .returned (.bool false) ∧ w' = w) := free_nil x
  clear h2 hn hE hz h9 HA
  go_upto_region 4 with (go_at_call 9; refine HA0.out.mono ?_; rintro e w1 ⟨rfl, b1⟩)
  go_upto_region 10 with (first
    | (go_at_call 15; refine (N15.out _).mono ?_; rintro e w2 ⟨rfl, rfl⟩)
    | (go_at_call 16; refine (N16.out _).mono ?_; rintro e w2 ⟨rfl, rfl⟩)
    | (go_at_call 18; refine (N18.out _).mono ?_; rintro e w2 ⟨rfl, rfl⟩)
    | (go_at_call 19; refine (N19.out _).mono ?_; rintro e w2 ⟨rfl, rfl⟩)
    | (go_at_call 13; refine (N13.out _).mono ?_; rintro e w2 ⟨rfl, rfl⟩))
  clear N15 N16 N18 N19 N13 HA0
  go_upto_region 12 with (refine build_g0 rfl rfl ?_)
  have HW : Hid (Below w.heap.size w ((w2.alloc (.cells zA 54)).alloc (.cells #[.slice none 0 0] 30)) ∧ Gr ((w2.alloc (.cells zA 54)).alloc (.cells #[.slice none 0 0] 30)) w2.heap.size g0 ∧ ((w2.alloc (.cells zA 54)).alloc (.cells #[.slice none 0 0] 30)).heap[w2.heap.size + 1]? = some (.cells #[.slice none 0 0] 30 (0, 0)) ∧ w.heap.size ≤ w2.heap.size) := by
    refine ⟨(b1.out.alloc b1.out.size _).alloc (by simp; have := b1.out.size; omega) _, (gr_new w2).grow ((Below.refl _ _).alloc (Nat.le_refl _) _), ?_, b1.out.size⟩
    have := new0 (w := w2.alloc (.cells zA 54)) (o := .cells #[.slice none 0 0] 30 (0, 0))
    simpa using this
  generalize (w2.alloc (.cells zA 54)).alloc (.cells #[.slice none 0 0] 30) = W at *
  clear b1
  obtain ⟨rb, hrb⟩ : ∃ rb, rb = w2.heap.size + 1 := ⟨_, rfl⟩
  rw [← hrb] at HW ⊢
  have HWW : Hid (w.heap.size ≤ rb ∧ w.heap.size ≤ w2.heap.size) := ⟨by have := HW.out.2.2.2; omega, HW.out.2.2.2⟩
  clear hrb
  generalize w2.heap.size = gb at *
  have HAI : Hid (AI W q E) := HE.out.2.1.below HW.out.1
  have hn3 : n ≤ 300 := HE.out.2.2.2
  go_upto_region 14 with (at_builtin; refine append_row2 (wr := W) (B := W.heap.size) rfl _ _ rfl none 0 0 [] rfl (IRow.nil _ _) (Nat.le_refl _) q n c E rfl HE.out.1 HAI.out HE.out.2.2.1 (by omega) ?_; intro p3 c3 w3 R3 hB3)
  rw [Nat.zero_add, List.nil_append] at R3
  have HZ0 : Hid (Nz w w3 w3.heap.size gb rb g0 (.slice none 0 0) [] p3 n c3 E) := by
    have hb := HW.out.1.trans (hB3.mono HW.out.1.size)
    refine ⟨⟨HW.out.2.1.grow hB3, rm_zero ((hB3.block rb (Array.getElem?_eq_some_iff.1 HW.out.2.2.1).1).trans HW.out.2.2.1), rel_zero, hb, HWW.out.2, HWW.out.1, hb.size, Nat.le_refl _⟩, R3.mono HW.out.1.size, fun k e => R3.lt e⟩
  clear R3 hB3 HW HAI
  have H15 : Hid (Calls Try.prog 15 #[.pointer (some ⟨gb, 0, none⟩), .int .i64 x, .slice p3 n c3] w3 fun e w1 => ∃ a er, e = .returned (.tuple #[.bool a, .int .i64 er]) ∧ Hid (Calls Try.prog 20 #[.pointer (some ⟨rb, 0, none⟩), .int .i64 x, .slice q n c] w1 fun e w2 => e = .returned (.tuple #[.bool a, .int .i64 er]) ∧ Hid (Calls Try.prog 21 #[.slice p3 n c3, .slice q n c] w2 fun e w4 => e = .returned (.bool true) ∧ Hid (∃ g' v' R', Nz w w4 w3.heap.size gb rb g' v' R' p3 n c3 E)))) := by
    have hZ := HZ0.out
    refine (bo_add hZ.bo x p3 q n c3 c E HE.out.1 hZ.r.ai HE.out.2.1 (by omega)).mono ?_
    rintro e w1 ⟨a, er, rfl, h1⟩
    refine ⟨a, er, rfl, h1.out.mono ?_⟩
    rintro e w2 ⟨rfl, ⟨g', v', R', hB, hK⟩⟩
    have hr2 : IRow w.heap.size w2 (.slice p3 n c3) E := hZ.r.keep fun k e => hK.block k (hZ.r.lt e) fun qq => by
      rcases hZ.r.2 with ⟨e0, _⟩ | ⟨gg, cap, cur, e0, _, hgg, _⟩
      · rw [e0] at e; cases e
      · rw [e0] at e
        have hk : gg = k := by injection e
        subst hk
        rcases qq with e1 | e1 | e1
        · exact hZ.bo.gr.typ hgg (by decide) e1
        · have h9 := hZ.bo.rm.c
          rw [← e1, hgg] at h9
          injection h9 with h9
          injection h9 with _ q9
          exact absurd q9 (by decide)
        · cases e1
    refine ⟨rfl, (same_any w2 p3 q n c3 c E HE.out.1 hr2.ai (HE.out.2.1.below hB.bl) (by omega)).mono ?_⟩
    rintro e w4 ⟨rfl, b4⟩
    exact ⟨rfl, g', v', R', hB.grow b4, hr2.below b4, hZ.lt⟩
  clear HZ0
  go_upto_region 18 with (first
    | (go_at_call 15; refine H15.out.mono ?_; rintro e w4 ⟨a, er, rfl, h4⟩)
    | (go_at_call 20; refine h4.out.mono ?_; rintro e w5 ⟨rfl, h5⟩)
    | (go_at_call 21; refine h5.out.mono ?_; rintro e w6 ⟨rfl, h6⟩))
  obtain ⟨g', v', R', hZ⟩ := h6.out
  have HZ : Hid (Nz w w6 w3.heap.size gb rb g' v' R' p3 n c3 E) := hZ
  clear h4 h5 h6 hZ H15
  generalize w3.heap.size = bs at *
  go_wp2_with fail
  go_loopw [21] (fun t21 wr => ∃ (i : Nat) (F : List Int), t21 = .int .i64 i ∧ i ≤ n ∧ Hid (F.length = n ∧ Nz w wr bs gb rb g' v' R' p3 n c3 F)) (fun t21 _ => n - (intOf t21).toNat)
  case atStart => exact ⟨0, E, rfl, Nat.zero_le _, HE.out.1.symm, HZ.out⟩
  case round =>
    clear HZ
    obtain ⟨i, F, rfl, hin, HF⟩ := hrel
    by_cases hi : i < n
    · have hi' : (i : Int) < (n : Int) := by omega
      obtain ⟨gg, c9, e0⟩ := HF.out.2.r.row (by have := HF.out.1; omega)
      injection e0 with e0 e1 e2
      clear e1 e2
      subst e0
      obtain ⟨y, hy⟩ : ∃ y, F[i]? = some y := ⟨_, List.getElem?_eq_getElem (by have := HF.out.1; omega)⟩
      have cy := HF.out.2.r.cell hy
      have fy := HF.out.2.r.fz i
      have HN : Hid ((F.set i 0).length = n ∧ Nz w (wr.setCell ⟨gg, i, none⟩ (.int .i64 0)) bs gb rb g' v' R' (some ⟨gg, 0, none⟩) n c3 (F.set i 0)) := by
        obtain ⟨cur, hc⟩ := ir_blk HF.out.2.r
        have hge := HF.out.2.r.ge (g := gg) rfl
        exact ⟨by rw [List.length_set]; exact HF.out.1, HF.out.2.bo.setI hc (HF.out.2.lt gg rfl) hge, HF.out.2.r.set i 0, HF.out.2.lt⟩
      clear hy HF
      go_wp2_with fail
      refine ⟨⟨i + 1, F.set i 0, by simp, by omega, HN.out⟩, ?_⟩
      simp [intOf]
      omega
    · have hi' : ¬ (i : Int) < (n : Int) := by omega
      have H16 : Hid (Calls Try.prog 16 #[.pointer (some ⟨gb, 0, none⟩), .int .i64 x] wr fun e w1 => ∃ (p : Option Addr) (n c : Nat) (er : Int), e = .returned (.tuple #[.slice p n c, .int .i64 er]) ∧ Hid (Calls Try.prog 22 #[.pointer (some ⟨rb, 0, none⟩), .int .i64 x] w1 fun e w2 => ∃ (p2 : Option Addr) (c2 : Nat), e = .returned (.tuple #[.slice p2 n c2, .int .i64 er]) ∧ Hid (Calls Try.prog 21 #[.slice p n c, .slice p2 n c2] w2 fun e w3 => e = .returned (.bool true) ∧ Hid (Below w.heap.size w w3)))) := by
        refine (bo_par HF.out.2.bo x).mono ?_
        rintro e w1 ⟨p, n, c, er, rfl, _, h1⟩
        refine ⟨p, n, c, er, rfl, h1.out.mono ?_⟩
        rintro e w2 ⟨p2, c2, rfl, _, h2⟩
        exact ⟨p2, c2, rfl, h2.out.mono fun e w3 ⟨h3, h4⟩ => ⟨h3, h4.out.bl⟩⟩
      clear HF hi
      go_wp2_with (first
        | (go_at_call 16; refine H16.out.mono ?_; rintro e w7 ⟨p7, n7, c7, er7, rfl, h7⟩)
        | (go_at_call 22; refine h7.out.mono ?_; rintro e w8 ⟨p8, c8, rfl, h8⟩)
        | (go_at_call 21; refine h8.out.mono ?_; rintro e w9 ⟨rfl, h9⟩))
      go_ret
      exact ⟨rfl, h9.out⟩
end Go.Proofs.Ytodldfgoieikcaa
