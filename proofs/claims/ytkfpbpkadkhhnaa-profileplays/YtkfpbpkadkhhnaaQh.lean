/-
  The reference's Steps.
-/
import Derived.Test.YtkfpbpkadkhhnaaQf
import Derived.Test.YtkfpbpkadkhhnaaPh
namespace Go.Proofs.Ytkfpbpkadkhhnaa
open Go.RowKit Go.Maps

theorem info59 : (Try.prog.info? 59).map (fun i => (i.zero, i.size, i.bytes)) = some (some (.agg #[.int .i64 0, .int .i64 0, .int .i64 0, .int .i64 0, .int .i64 0]), 5, 40) := by kernel_rfl
/-- a row of the reference's steps -/
def ORow (b : Nat) (w : World) (v : Value) (L : List St) : Prop := w.ownsRow b 59 5 v L.length (flat L)
section
variable {w w1 : World} {v : Value} {L : List St} {b g n c i : Nat}
theorem ORow.nil (b : Nat) (w : World) : ORow b w (.slice none 0 0) [] := World.ownsRow_nil w b 59 5
theorem ORow.shape (h : ORow b w v L) : ∃ a c, v = .slice a L.length c := by
  rcases h.2 with ⟨rfl, h0⟩ | ⟨g, cap, cur, rfl, _⟩
  · exact ⟨none, 0, by rw [h0]⟩
  · exact ⟨_, _, rfl⟩
theorem ORow.lt (h : ORow b w v L) {g : Nat} (e : v.ownBlock = some g) : g < w.heap.size := (World.ownsRow.lt h g e).2
theorem ORow.ge (h : ORow b w v L) {g : Nat} (e : v.ownBlock = some g) : b ≤ g := (World.ownsRow.lt h g e).1
theorem ORow.keep (h : ORow b w v L) (k : ∀ g, v.ownBlock = some g → w1.heap[g]? = w.heap[g]?) : ORow b w1 v L := ownsKeep h k
theorem ORow.below (h : ORow b w v L) (k : Below w.heap.size w w1) : ORow b w1 v L := h.keep fun g e => k.block g (h.lt e)
theorem ORow.row (h : ORow b w v L) (hl : 0 < L.length) : ∃ g c, v = .slice (some ⟨g, 0, none⟩) L.length c := by
  rcases h.2 with ⟨rfl, h0⟩ | ⟨g, cap, cur, rfl, _⟩
  · omega
  · exact ⟨g, cap, rfl⟩
theorem ORow.cells (h : ORow b w (.slice (some ⟨g, 0, none⟩) n c) L) {s : St} (hs : L[i]? = some s) : w.cell? ⟨g, i * 5, none⟩ = some (.int .i64 s.at') ∧ w.cell? ⟨g, i * 5 + 1, none⟩ = some (.int .i64 s.fr.a) ∧ w.cell? ⟨g, i * 5 + 1 + 1, none⟩ = some (.int .i64 s.fr.b) ∧ w.cell? ⟨g, i * 5 + 1 + 2, none⟩ = some (.int .i64 s.fr.c) ∧ w.cell? ⟨g, i * 5 + 1 + 3, none⟩ = some (.int .i64 s.fr.d) := by
  have key : ∀ (j : Nat) (u : Value), (flat L)[j]? = some u → w.cell? ⟨g, j, none⟩ = some u := fun j u hj => by
    have := World.ownsRow.cells h (g := g) rfl j _ hj
    rwa [Addr.add_lit, Nat.zero_add] at this
  obtain ⟨h0, h1, h2, h3, h4⟩ := flat_at hs
  exact ⟨key _ _ h0, key _ _ h1, key _ _ h2, key _ _ h3, key _ _ h4⟩
theorem ORow.ty (h : ORow b w v L) {g : Nat} (e : v.ownBlock = some g) {cs : Array Value} {t : TypeId} (hg : w.heap[g]? = some (.cells cs t (0, 0))) : t = 59 := by
  rcases h.2 with ⟨e0, _⟩ | ⟨g', cap, cur, e0, _, hgg, _⟩
  · rw [e0] at e; cases e
  · rw [e0] at e
    cases e
    rw [hg] at hgg
    injection hgg with q
    injection q with _ q
theorem IRow.ty {E : List Int} (h : IRow b w v E) {g : Nat} (e : v.ownBlock = some g) : ∃ cs, w.heap[g]? = some (.cells cs 2 (0, 0)) := by
  rcases h.2 with ⟨e0, _⟩ | ⟨g', cap, cur, e0, _, hgg, _⟩
  · rw [e0] at e; cases e
  · rw [e0] at e
    cases e
    exact ⟨cur, hgg⟩
end
/-- while the reference's Steps gathers: the row of ends, what was free, the row that is told -/
structure SQ (w wr : World) (wb : Nat) (ev : Value) (E : List Int) (ov : Value) (L : List St) (x : V) : Prop where
  bl : Below w.heap.size w wr
  e : IRow w.heap.size wr ev E
  o : ORow w.heap.size wr ov L
  b : Bx wr wb x
  ne : w.heap.size ≤ wb
theorem SQ.below {w wr w1 : World} {wb : Nat} {ev : Value} {E : List Int} {ov : Value} {L : List St} {x : V} (h : SQ w wr wb ev E ov L x) (b : Below wr.heap.size wr w1) : SQ w w1 wb ev E ov L x :=
  ⟨h.bl.trans (b.mono h.bl.size), h.e.below b, h.o.below b, at_below b (Nat.le_refl _) h.b, h.ne⟩
/-- a step behind the others, as a step of a region that draws -/
theorem step_told {ops : Array Oper} {o : Oper} {a : Act} {W : World} {K : Act → World → Prop} {Q : Exit → Act → World → Prop} {F : Prop} (hgd : o.guard = none) (s x : Operand) (ho : o.op = .call { callee := .builtin .append, args := #[s, x], argTypes := #[41, 41] })
    (w : World) (wb vb : Nat) (ev : Value) (E : List Int) (p : Option Addr) (n c : Nat) (L : List St) (y z : V) (t : St) (hs : a.eval s = .slice p n c) (hn : L.length = n) (hq : SQ w W wb ev E (.slice p n c) L y) (hz : Bx W vb z) (h4 : n ≤ 10000)
    (g cc : Nat) (hx : a.eval x = .slice (some ⟨g, 0, none⟩) 1 cc) (hg : W.heap[g]? = some (.cells (stv t).toArray 59 (0, 0)))
    (h : ∀ g3 c3 w3, Hid (SQ w w3 wb ev E (.slice (some ⟨g3, 0, none⟩) (n + 1) c3) (L ++ [t]) y ∧ Bx w3 vb z) → K (a.put o.dst (.slice (some ⟨g3, 0, none⟩) (n + 1) c3)) w3) :
    if Region.wanted o (yielded ops a.tmps) = true then Oper.wp Try.prog o a W K Q else F := by
  obtain ⟨i0, hi, hz0, hz1, hz2⟩ := info_parts info59
  have hrow := hq.o
  unfold ORow at hrow
  rw [hn] at hrow
  obtain ⟨v', w3, hrun, h2, h3, _, h5⟩ := run_append_own_at (P := Try.prog) W w.heap.size 41 o.type 59 i0 _ 5 40 Try.underlying41 hi hz0 hz1 hz2 rfl (by decide) (.slice p n c) n (flat L) hrow ⟨g, 0, none⟩ 1 cc (stv t) rfl (fun j u hj => by rw [Addr.add_lit, Nat.zero_add, cell_of hg]; simpa using hj) (fun u hu => flat_one (l := [t]) u (by simpa [flat] using hu)) (by unfold maxLen; omega) (by omega) hq.bl.size
  have R3 : ORow w.heap.size w3 v' (L ++ [t]) := by
    unfold ORow
    rw [List.length_append, hn]
    have e : flat (L ++ [t]) = flat L ++ stv t := by rw [flat_append]; simp [flat]
    rw [e]
    exact h2
  obtain ⟨g3, c3, e3⟩ := R3.row (by simp)
  rw [show (L ++ [t]).length = n + 1 by rw [List.length_append, hn]; rfl] at e3
  subst e3
  have keepB : ∀ {j : Nat} {u : V}, Bx W j u → Bx w3 j u := fun {j u} hj => (h3.block j (Array.getElem?_eq_some_iff.1 hj).1 fun e => by
    have := hq.o.ty e.symm hj
    exact absurd this (by decide)).trans hj
  have key := h g3 c3 w3 ⟨⟨below_grown (B := w.heap.size) hq.bl h3 (fun g e => hq.o.ge e) rfl, hq.e.keep fun j e => h3.block j (hq.e.lt e) fun e' => by
    obtain ⟨cs, hcs⟩ := hq.e.ty e
    have := hq.o.ty e'.symm hcs
    exact absurd this (by decide), R3, keepB hq.b, hq.ne⟩, keepB hz⟩
  have hw : Region.wanted o (yielded ops a.tmps) = true := by simp [Region.wanted, hgd]
  rw [if_pos hw]
  unfold Oper.wp
  simp [execOp, ho, resolve, invoke, builtin, hs, hx, hrun, Result.andThen]
  exact key
theorem SQ.set {w wr : World} {wb : Nat} {ev : Value} {E : List Int} {ov : Value} {L : List St} {x : V} (h : SQ w wr wb ev E ov L x) (y : V) :
    SQ w ((((wr.setCell ⟨wb, 0, none⟩ (.int .i64 y.a)).setCell ⟨wb, 1, none⟩ (.int .i64 y.b)).setCell ⟨wb, 2, none⟩ (.int .i64 y.c)).setCell ⟨wb, 3, none⟩ (.int .i64 y.d)) wb ev E ov L y := by
  have hk : ∀ j : Nat, j ≠ wb → ((((wr.setCell ⟨wb, 0, none⟩ (.int .i64 y.a)).setCell ⟨wb, 1, none⟩ (.int .i64 y.b)).setCell ⟨wb, 2, none⟩ (.int .i64 y.c)).setCell ⟨wb, 3, none⟩ (.int .i64 y.d)).heap[j]? = wr.heap[j]? := fun j hj =>
    (Below.heap_setCell _ _ _ _ hj).trans ((Below.heap_setCell _ _ _ _ hj).trans ((Below.heap_setCell _ _ _ _ hj).trans (Below.heap_setCell _ _ _ _ hj)))
  refine ⟨below_set4 h.bl h.ne _ _ _ _, h.e.keep fun j e => hk j fun q => ?_, h.o.keep fun j e => hk j fun q => ?_, at_set4 h.b, h.ne⟩
  · subst q
    obtain ⟨cs, hcs⟩ := h.e.ty e
    rw [h.b] at hcs
    injection hcs with hcs
    injection hcs with _ hcs
    exact absurd hcs (by decide)
  · subst q
    exact absurd (h.o.ty e h.b) (by decide)
set_option maxHeartbeats 4000000 in
set_option maxRecDepth 100000 in
theorem rsteps_any {w : World} {rb : Nat} {C : V} {tv : Value} {T : List Opr} (h : RP w rb C tv T) (hO : RO C T) :
    Calls Try.prog 14 #[.pointer (some ⟨rb, 0, none⟩)] w fun e w' => ∃ (p : Option Addr) (c : Nat) (L : List St), e = .returned (.slice p L.length c) ∧ ORow w.heap.size w' (.slice p L.length c) L ∧ (∃ E, Ends T E ∧ L = rdd C (M0 C T E)) ∧ Below w.heap.size w w' := by
  have H24 : Hid (∀ x W, Below w.heap.size w W → Calls Try.prog 24 #[.pointer (some ⟨rb, 0, none⟩), .int .i64 x] W fun e w' => e = .returned (.agg #[.int .i64 (fT C T x).a, .int .i64 (fT C T x).b, .int .i64 (fT C T x).c, .int .i64 (fT C T x).d]) ∧ Below W.heap.size W w') := fun x W b => rfree_any (h.below b) hO x
  have H26 : Hid (Calls Try.prog 26 #[.pointer (some ⟨rb, 0, none⟩)] w fun e w' => ∃ (p : Option Addr) (c : Nat) (E : List Int), e = .returned (.slice p E.length c) ∧ Hid (IRow w.heap.size w' (.slice p E.length c) E ∧ Ends T E ∧ Below w.heap.size w w')) := rends_any h hO.n
  have HM : Hid (RP w rb C tv T) := h
  have hTl := hO.n
  clear h hO
  go_enter Try.func14, Try.ntmps14
  go_upto_region 3 with (go_at_call 26; refine H26.out.mono ?_; rintro e w1 ⟨p, c, E, rfl, h1⟩)
  obtain ⟨c0, c1, c2, c3, -⟩ := (HM.out.below h1.out.2.2).cells
  have hlt : rb < w1.heap.size := (HM.out.below h1.out.2.2).lt rb (.inl rfl)
  have HEn : Hid (Ends T E) := h1.out.2.1
  have hEl : E.length ≤ 8192 := by have := HEn.out.l; omega
  go_upto_region 4 with fail
  have HS0 : Hid (SQ w (w1.alloc (vB C)) w1.heap.size (.slice p E.length c) E (.slice none 0 0) (rdd C ((M0 C T E).take 0)) (pv C (M0 C T E) 0)) := by
    have hb := h1.out.2.2
    refine ⟨hb.alloc hb.size _, h1.out.1.below ((Below.refl _ _).alloc (Nat.le_refl _) _), ORow.nil _ _, ?_, hb.size⟩
    rw [pv_zero]
    exact new0
  generalize w1.alloc (vB C) = W2 at *
  generalize w1.heap.size = wb at *
  clear h1 H26 c0 c1 c2 c3 hlt
  go_wp2_with fail
  go_loopw [3, 6] (fun t3 t6 wr => ∃ (i m : Nat) (po : Option Addr) (co : Nat), t3 = .slice po m co ∧ t6 = .int .i64 i ∧ i ≤ E.length ∧ Hid (SQ w wr wb (.slice p E.length c) E (.slice po m co) (rdd C ((M0 C T E).take i)) (pv C (M0 C T E) i) ∧ m = (rdd C ((M0 C T E).take i)).length ∧ m ≤ i)) (fun _ t6 _ => E.length - (intOf t6).toNat)
  case atStart => exact ⟨0, 0, none, 0, rfl, rfl, Nat.zero_le _, HS0.out, rfl, Nat.le_refl _⟩
  case round =>
    clear HS0
    obtain ⟨i, m, po, co, rfl, rfl, hil, HI⟩ := hrel
    by_cases hi : i < E.length
    · obtain ⟨x, hx⟩ : ∃ x, E[i]? = some x := ⟨_, List.getElem?_eq_getElem hi⟩
      obtain ⟨g9, c9, ep⟩ := HI.out.1.e.row (by omega)
      injection ep with ep ep2 ep3
      subst ep
      clear ep2 ep3
      have hi' : (i : Int) < (E.length : Int) := by omega
      have sx := HI.out.1.e.cell hx
      have hm0x := m0_at (C := C) (T := T) hx
      obtain ⟨z, hz⟩ : ∃ z, z = fT C T x := ⟨_, rfl⟩
      rw [← hz] at hm0x
      have hpz : pv C (M0 C T E) (i + 1) = z := pv_succ hm0x
      have hml := HI.out.2.2
      obtain ⟨y, hy⟩ : ∃ y, y = pv C (M0 C T E) i := ⟨_, rfl⟩
      have htk : (M0 C T E).take (i + 1) = (M0 C T E).take i ++ [⟨x, z⟩] := by rw [List.take_add_one, hm0x]; rfl
      have hpl : pv C ((M0 C T E).take i) ((M0 C T E).take i).length = y := by
        have hl9 : ((M0 C T E).take i).length = i := by rw [List.length_take, m0_length]; omega
        rw [hl9, hy]
        cases i with
        | zero => rw [pv_zero, pv_zero]
        | succ j =>
          have hj := List.getElem?_eq_getElem (show j < (M0 C T E).length by rw [m0_length]; omega)
          rw [pv_succ hj, pv_succ (L := (M0 C T E).take (j + 1)) (by rw [List.getElem?_take, if_pos (by omega)]; exact hj)]
      have hsn := rdd_snoc (C := C) (L := (M0 C T E).take i) (s := ⟨x, z⟩)
      rw [← htk, hpl] at hsn
      have H24' : Hid (Calls Try.prog 24 #[.pointer (some ⟨rb, 0, none⟩), .int .i64 x] wr fun e w' => e = .returned (.agg #[.int .i64 z.a, .int .i64 z.b, .int .i64 z.c, .int .i64 z.d]) ∧ Hid (SQ w (w'.alloc (vB z)) wb (.slice (some ⟨g9, 0, none⟩) E.length c) E (.slice po m co) (rdd C ((M0 C T E).take i)) y ∧ Bx (w'.alloc (vB z)) w'.heap.size z)) := by
        refine (H24.out x wr HI.out.1.bl).mono ?_
        rintro e w' ⟨rfl, b9⟩
        have k9 := (HI.out.1.below b9).below ((Below.refl _ w').alloc (Nat.le_refl _) (vB z))
        rw [← hy] at k9
        exact ⟨by rw [hz], k9, new0⟩
      have Hmm : Hid (m = (rdd C ((M0 C T E).take i)).length) := HI.out.2.1
      have Hpz : Hid (pv C (M0 C T E) (i + 1) = z) := hpz
      have Hsn : Hid (rdd C ((M0 C T E).take (i + 1)) = if z = y then rdd C ((M0 C T E).take i) else rdd C ((M0 C T E).take i) ++ [⟨x, z⟩]) := hsn
      clear hz hm0x hpz hy htk hpl hsn HI
      go_upto_region 8 with (go_at_call 24; refine H24'.out.mono ?_; rintro e w4 ⟨rfl, h4⟩)
      have h5 : Hid (SQ w (w4.alloc (vB z)) wb (.slice (some ⟨g9, 0, none⟩) E.length c) E (.slice po m co) (rdd C ((M0 C T E).take i)) y ∧ Bx (w4.alloc (vB z)) w4.heap.size z) := h4.out
      generalize w4.alloc (vB z) = W4 at *
      generalize w4.heap.size = zb at *
      clear h4 H24' sx
      have sx := h5.out.1.e.cell hx
      obtain ⟨q0, q1, q2, q3, qf0, qf1, qf2, qf3, qs, qn⟩ := cells4 h5.out.1.b
      obtain ⟨z0, z1, z2, z3, -, -, -, -, zs, zn⟩ := cells4 h5.out.2
      have hq := eqV z y
      by_cases hzy : z = y
      · have HN : Hid (SQ w ((((W4.setCell ⟨wb, 0, none⟩ (.int .i64 z.a)).setCell ⟨wb, 1, none⟩ (.int .i64 z.b)).setCell ⟨wb, 2, none⟩ (.int .i64 z.c)).setCell ⟨wb, 3, none⟩ (.int .i64 z.d)) wb (.slice (some ⟨g9, 0, none⟩) E.length c) E (.slice po m co) (rdd C ((M0 C T E).take (i + 1))) (pv C (M0 C T E) (i + 1)) ∧ m = (rdd C ((M0 C T E).take (i + 1))).length ∧ m ≤ i + 1) := by
          rw [Hsn.out, if_pos hzy, Hpz.out]
          exact ⟨h5.out.1.set z, Hmm.out, by omega⟩
        have hq' : ∀ w, (Op.equalIn 10000 23 (.agg #[.int .i64 z.a, .int .i64 z.b, .int .i64 z.c, .int .i64 z.d]) (.agg #[.int .i64 y.a, .int .i64 y.b, .int .i64 y.c, .int .i64 y.d])).run Try.prog w = .ok true w := fun w => by rw [hq, decide_eq_true hzy]
        clear hq hzy hx h5
        go_wp2_with fail
        refine ⟨⟨i + 1, m, _, _, rfl, by simp, hi, HN.out⟩, ?_⟩
        simp [intOf]
        omega
      · have hq' : ∀ w, (Op.equalIn 10000 23 (.agg #[.int .i64 z.a, .int .i64 z.b, .int .i64 z.c, .int .i64 z.d]) (.agg #[.int .i64 y.a, .int .i64 y.b, .int .i64 y.c, .int .i64 y.d])).run Try.prog w = .ok false w := fun w => by rw [hq, decide_eq_false hzy]
        have Hsn2 : Hid (rdd C ((M0 C T E).take (i + 1)) = rdd C ((M0 C T E).take i) ++ [⟨x, z⟩]) := by have := Hsn.out; rw [if_neg hzy] at this; exact this
        have HB1 : Hid (SQ w (W4.alloc (.cells #[.int .i64 x, .int .i64 z.a, .int .i64 z.b, .int .i64 z.c, .int .i64 z.d] 59)).drew wb (.slice (some ⟨g9, 0, none⟩) E.length c) E (.slice po m co) (rdd C ((M0 C T E).take i)) y ∧ Bx (W4.alloc (.cells #[.int .i64 x, .int .i64 z.a, .int .i64 z.b, .int .i64 z.c, .int .i64 z.d] 59)).drew zb z) := ⟨h5.out.1.below ((Below.refl _ _).alloc (Nat.le_refl _) _).drew, at_alloc h5.out.2⟩
        have HG1 : Hid ((W4.alloc (.cells #[.int .i64 x, .int .i64 z.a, .int .i64 z.b, .int .i64 z.c, .int .i64 z.d] 59)).drew.heap[W4.heap.size]? = some (.cells (stv ⟨x, z⟩).toArray 59 (0, 0))) := new0 (w := W4)
        clear hq hzy hx h5 Hsn
        go_wp2_with fail
        go_region_law (refine step_told rfl (.tmp 29) (.tmp 36) rfl w wb zb (.slice (some ⟨g9, 0, none⟩) E.length c) E po m co (rdd C ((M0 C T E).take i)) y z ⟨x, z⟩ (by simp [Act.eval]) Hmm.out.symm HB1.out.1 HB1.out.2 (by omega) W4.heap.size 1 (by simp [Act.eval]) HG1.out ?_; intro g3 c3 w5 h6)
        all_goals clear q0 q1 q2 q3 qf0 qf1 qf2 qf3 qs qn z0 z1 z2 z3 zs zn sx HB1 HG1
        all_goals obtain ⟨q0, q1, q2, q3, qf0, qf1, qf2, qf3, qs, qn⟩ := cells4 h6.out.1.b
        all_goals obtain ⟨z0, z1, z2, z3, -, -, -, -, zs, zn⟩ := cells4 h6.out.2
        all_goals have HN : Hid (SQ w ((((w5.setCell ⟨wb, 0, none⟩ (.int .i64 z.a)).setCell ⟨wb, 1, none⟩ (.int .i64 z.b)).setCell ⟨wb, 2, none⟩ (.int .i64 z.c)).setCell ⟨wb, 3, none⟩ (.int .i64 z.d)) wb (.slice (some ⟨g9, 0, none⟩) E.length c) E (.slice (some ⟨g3, 0, none⟩) (m + 1) c3) (rdd C ((M0 C T E).take (i + 1))) (pv C (M0 C T E) (i + 1)) ∧ m + 1 = (rdd C ((M0 C T E).take (i + 1))).length ∧ m + 1 ≤ i + 1) := by rw [Hsn2.out, Hpz.out]; exact ⟨h6.out.1.set z, by rw [List.length_append, ← Hmm.out]; rfl, by omega⟩
        all_goals go_wp2_with fail
        all_goals
          refine ⟨⟨i + 1, m + 1, _, _, rfl, by simp, hi, HN.out⟩, ?_⟩
          simp [intOf]
          omega
    · have hi' : ¬ (i : Int) < (E.length : Int) := by omega
      have HF : Hid (SQ w wr wb (.slice p E.length c) E (.slice po m co) (rdd C (M0 C T E)) (pv C (M0 C T E) i) ∧ m = (rdd C (M0 C T E)).length) := by
        have h9 := HI.out
        rw [show (M0 C T E).take i = M0 C T E from List.take_of_length_le (by rw [m0_length]; omega)] at h9
        exact ⟨h9.1, h9.2.1⟩
      clear HI
      go_wp2_with fail
      go_ret
      have e1 := HF.out.2
      have e2 := HF.out.1
      rw [e1] at e2
      exact ⟨po, co, rdd C (M0 C T E), by rw [e1]; rfl, e2.o, ⟨E, HEn.out, rfl⟩, e2.bl⟩
end Go.Proofs.Ytkfpbpkadkhhnaa
