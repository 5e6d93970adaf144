/-
  Rows of numbers beside a line; Turns.
-/
import Derived.Test.YtcfnonfghlgphaaGe
import Derived.Test.YtcfnonfghlgphaaGf
import Derived.Laws.MakeOwn
import Derived.Maps.AppendAt
namespace Go.Proofs.Ytcfnonfghlgphaa
open Go.RowKit Go.Maps

def jC (x : Int) : List Value := [.int .i64 x]
theorem jC_len (x : Int) : (jC x).length = 1 := rfl
theorem jC_one (x : Int) : ∀ u ∈ jC x, u.oneCell' = true := by
  intro u hu
  simp only [jC, List.mem_cons, List.not_mem_nil, or_false] at hu
  subst hu; rfl
theorem info2 : (Try.prog.info? 2).map (fun i => (i.zero, i.size, i.bytes)) = some (some (.int .i64 0), 1, 8) := by kernel_rfl
/-- rows of numbers -/
abbrev IR (b : Nat) (w : World) (v : Value) (J : List Int) : Prop := GRow 2 1 jC b w v J
theorem append_j {ops : Array Oper} {rest : List Oper} {o : Oper} {a : Act} {Q : Exit → Act → World → Prop} {wr : World} {B : Nat} (hgd : o.guard = none) (s x : Operand) (ho : o.op = .call { callee := .builtin .append, args := #[s, x], argTypes := #[24, 24] }) (p : Option Addr) (m c : Nat) (E : List Int) (y : Int) (hs : a.eval s = .slice p m c) (hr : IR B wr (.slice p m c) E) (hB : B ≤ wr.heap.size)
    (g cc : Nat) (hx : a.eval x = .slice (some ⟨g, 0, none⟩) 1 cc) (hg : wr.cell? ⟨g, 0, none⟩ = some (.int .i64 y)) (h9 : m ≤ 1000000000000)
    (h : ∀ p3 c3 w3, IR B w3 (.slice p3 (m + 1) c3) (E ++ [y]) → wr.grownBy w3 (Value.slice p m c).ownBlock → ((Value.slice p3 (m + 1) c3).ownBlock = (Value.slice p m c).ownBlock ∨ (Value.slice p3 (m + 1) c3).ownBlock = some wr.heap.size) → wpList Try.prog ops Q rest (a.put o.dst (.slice p3 (m + 1) c3)) w3) :
    wpList Try.prog ops Q (o :: rest) a wr := by
  have hm := hr.len
  obtain ⟨i0, hi, hz0, hz1, hz2⟩ := info_parts info2
  refine wpList_append_own_at _ hgd s x 24 ho B 2 i0 (.int .i64 0) 1 8 Try.underlying24 hi hz0 hz1 hz2 rfl (by decide) (.slice p m c) m (E.flatMap jC) hs (by have := hr; unfold IR GRow at this; rw [← hm] at this; exact this) ⟨g, 0, none⟩ 1 cc (jC y) hx rfl (fun j u hj => ?_) (jC_one y) (by unfold maxLen; omega) (by omega) hB fun v' w3 ho3 hg3 _ hn3 => ?_
  · cases j with
    | zero => simp [jC] at hj; rw [← hj, Addr.add_lit]; exact hg
    | succ j => simp [jC] at hj
  · have R3 : IR B w3 v' (E ++ [y]) := by
      unfold IR GRow
      rw [List.length_append, ← hm, List.flatMap_append]
      exact ho3
    obtain ⟨p3, c3, e3⟩ := R3.shape
    rw [List.length_append, ← hm] at e3
    subst e3
    exact h p3 c3 w3 R3 hg3 hn3
theorem make24 (w : World) (n : Nat) (h : n ≤ 1000000) : ∃ w', (Instr.makeSlice 24 (.int .i64 0) (.int .i64 (n : Int))).run Try.prog w = .ok (.slice (some ⟨w.heap.size, 0, none⟩) 0 n) w' ∧ IR w.heap.size w' (.slice (some ⟨w.heap.size, 0, none⟩) 0 n) [] ∧ Below w.heap.size w w' := by
  obtain ⟨i0, hi, hz0, hz1, hz2⟩ := info_parts info2
  obtain ⟨w', h1, h2, h3⟩ := run_make_own (P := Try.prog) w w.heap.size 24 2 i0 _ 1 Try.underlying24 hi hz0 hz1 .i64 .i64 n (by rw [hz2]; omega) (by unfold maxLen; omega) (Nat.le_refl _)
  exact ⟨w', h1, h2, below_grown h3 (Nat.le_refl _) (fun g e => by cases e)⟩
/-- a line and a row of numbers, apart; X: blocks that stay -/
structure TuS (w wr : World) (lb : Nat) (R : List Vi) (v : Value) (J : List Int) (X : Nat → Prop) : Prop where
  l : LnS w wr lb R (fun k => v.ownBlock = some k ∨ X k)
  r : IR w.heap.size wr v J
  d : ∀ k, X k → v.ownBlock ≠ some k
section
variable {w wr w' : World} {lb : Nat} {R : List Vi} {v : Value} {J : List Int} {X X' : Nat → Prop} {u : Vi}
theorem TuS.below (h : TuS w wr lb R v J X) (b : Below wr.heap.size wr w') (hX : ∀ k, X' k → k < w'.heap.size ∧ (X k ∨ wr.heap.size ≤ k)) : TuS w w' lb R v J X' := by
  refine ⟨h.l.kp (S := NoT) (Kp.of_below b) (fun _ e => e.elim) fun x e => ?_, h.r.below b, fun k e q => ?_⟩
  · rcases e with e | e
    · exact ⟨Nat.lt_of_lt_of_le (h.r.lt e) b.size, .inl (.inl e)⟩
    · exact ⟨(hX x e).1, (hX x e).2.imp .inr id⟩
  · rcases (hX k e).2 with e | e
    · exact h.d k e q
    · have := h.r.lt q; omega
theorem TuS.same (h : TuS w wr lb R v J X) (b : Below wr.heap.size wr w') : TuS w w' lb R v J X := h.below b fun k e => ⟨Nat.lt_of_lt_of_le (h.l.t k (.inr e)) b.size, .inl e⟩
theorem TuS.next (h : TuS w wr lb (u :: R) v J X) : Calls Try.prog 23 #[.pointer (some ⟨lb, 0, none⟩)] wr fun e w' => e = .returned (.tuple #[.int .i64 u.j, .int .i64 0]) ∧ Hid (TuS w w' lb R v J X ∧ ∀ k, X k → w'.heap[k]? = wr.heap[k]?) := by
  refine (next_some h.l).mono ?_
  rintro e w' ⟨rfl, h1⟩
  exact ⟨rfl, ⟨h1.out.1, h.r.keep fun g e => h1.out.2 g (.inl e), h.d⟩, fun k e => h1.out.2 k (.inr e)⟩
theorem TuS.app {x : Int} {v3 : Value} {w3 : World} (h : TuS w wr lb R v J X) (r : IR w.heap.size w3 v3 (J ++ [x])) (g : wr.grownBy w3 v.ownBlock) (hn : v3.ownBlock = v.ownBlock ∨ v3.ownBlock = some wr.heap.size) : TuS w w3 lb R v3 (J ++ [x]) X ∧ ∀ k, X k → w3.heap[k]? = wr.heap[k]? := by
  have hk : Kp (fun k => v.ownBlock = some k) wr w3 := Kp.of_grown g fun k e => e
  refine ⟨⟨h.l.kp hk (fun y e => ⟨.inl e, h.r.ge e⟩) fun y e => ?_, r, fun k e q => ?_⟩, fun k e => hk.block k (h.l.t k (.inr e)) (h.d k e)⟩
  · rcases e with e | e
    · refine ⟨r.lt e, ?_⟩
      rcases hn with q | q
      · exact .inl (.inl (q ▸ e))
      · rw [q] at e; cases e; exact .inr (Nat.le_refl _)
    · exact ⟨Nat.lt_of_lt_of_le (h.l.t y (.inr e)) hk.size, .inl (.inr e)⟩
  · rcases hn with q' | q'
    · exact h.d k e (q' ▸ q)
    · rw [q'] at q
      cases q
      have := h.l.t _ (.inr e)
      omega
end
/-- what Turns answers -/
def turR (L : List Vi) : Nat × List Int := if Uj L then (0, (srtV L).map Vi.j) else (5, [])
def TurP (w : World) (L : List Vi) (e : Ending) (w' : World) : Prop :=
  ∃ p k c, e = .returned (.tuple #[.slice p k c, .int .i64 ((turR L).1 : Nat)]) ∧ (turR L).2.length = k ∧ Hid (IR w.heap.size w' (.slice p k c) (turR L).2 ∧ Below w.heap.size w w')
set_option maxHeartbeats 2000000 in
set_option maxRecDepth 100000 in
theorem turns_all (L : List Vi) (q : Option Addr) (n c : Nat) (w : World) (hL : Hid (VA w q L)) (hO : Hid (VIn L)) (hn : Hid (L.length = n)) (n1 : n ≤ 1000000) :
    Calls Try.prog 10 #[.slice q n c] w (TurP w L) := by
  have H21 : Hid (Calls Try.prog 21 #[.slice q n c] w (PlcP w L)) := places_any L q n c w hL hO hn n1
  by_cases hU : Uj L
  · have HR : Hid (turR L = (0, (srtV L).map Vi.j) ∧ Uj L) := ⟨by unfold turR; rw [if_pos hU], hU⟩
    have H21' : Hid (Calls Try.prog 21 #[.slice q n c] w fun e w' => ∃ mv, e = .returned (.tuple #[.map mv, .int .i64 0]) ∧ Hid (Below w.heap.size w w')) := by
      refine H21.out.mono ?_
      rintro e w' ⟨mv, rfl, h⟩
      exact ⟨mv, by rw [if_pos hU], h.out.2⟩
    have H22 : Hid (∀ w1, Below w.heap.size w w1 → Calls Try.prog 22 #[.slice q n c] w1 (LndR w1 L)) := fun w1 b => lined_any w1 q n c L (hL.out.below b) hO.out hU hn n1
    have HM : ∀ w : World, ∃ w', (Instr.makeSlice 24 (.int .i64 0) (.int .i64 (n : Int))).run Try.prog w = .ok (.slice (some ⟨w.heap.size, 0, none⟩) 0 n) w' ∧ Hid (IR w.heap.size w' (.slice (some ⟨w.heap.size, 0, none⟩) 0 n) [] ∧ Below w.heap.size w w') := fun w => by
      obtain ⟨w', h1, h2⟩ := make24 w n n1
      exact ⟨w', h1, h2⟩
    clear H21 hU
    go_enter Try.func10, Try.ntmps10
    go_upto_region 4 with (go_at_call 21; refine H21'.out.mono ?_; rintro e w1 ⟨mv, rfl, b1⟩)
    obtain ⟨w2, hm, hm2⟩ := HM w1
    have B2 : Hid (Below w.heap.size w w2) := below_from b1.out hm2.out.2 b1.out.size
    go_upto_region 6 with (go_at_call 22; refine (H22.out _ B2.out).mono ?_; rintro e w3 ⟨lb, rfl, h3⟩)
    have T0 : Hid (TuS w w3 lb (srtV L) (.slice (some ⟨w1.heap.size, 0, none⟩) 0 n) [] NoT) := by
      have hw1 := b1.out.size
      have hr := hm2.out.1
      have h2 : w1.heap.size < w2.heap.size := hr.lt (g := w1.heap.size) rfl
      refine ⟨h3.out.2.from B2.out fun x e => ?_, ?_, fun _ e => e.elim⟩
      · rcases e with e | e
        · cases e; exact h2
        · exact e.elim
      · have := hr.below h3.out.2.b
        exact ⟨this.1, by
          rcases this.2 with h | ⟨g, cap, cur, e, hb, rest⟩
          · exact .inl h
          · exact .inr ⟨g, cap, cur, e, Nat.le_trans hw1 hb, rest⟩⟩
    have hlen : Hid ((srtV L).length = n) := (srtV_perm L).length_eq.trans hn.out
    clear h3 hm hm2 H22 H21' b1 B2 hL hO hn
    generalize w1.heap.size = g1 at *
    go_wp2_with fail
    go_loopw [6, 25] (fun x y wr => ∃ (k : Nat) (p : Option Addr) (c : Nat), x = .slice p k c ∧ y = .int .i64 k ∧ k ≤ n ∧ Hid (TuS w wr lb ((srtV L).drop k) (.slice p k c) (((srtV L).map Vi.j).take k) NoT)) (fun _ y _ => n - (intOf y).toNat)
    case atStart => exact ⟨0, _, _, rfl, rfl, Nat.zero_le _, T0.out⟩
    case round =>
      clear T0
      obtain ⟨k, p, c', rfl, rfl, hk, HT⟩ := hrel
      by_cases h0 : k = n
      · subst h0
        have HE : Hid (IR w.heap.size wr (.slice p k c') ((srtV L).map Vi.j) ∧ Below w.heap.size w wr) := by
          have h1 := HT.out.r
          rw [List.take_of_length_le (by rw [List.length_map]; exact Nat.le_of_eq hlen.out)] at h1
          exact ⟨h1, HT.out.l.b⟩
        clear HT
        go_wp2_with fail
        go_ret2
        unfold TurP
        rw [HR.out.1]
        exact ⟨p, k, c', rfl, by show (List.map Vi.j (srtV L)).length = k; rw [List.length_map]; exact hlen.out, HE.out⟩
      · have hlt' : (k : Int) < (n : Int) := by omega
        have hd : decide ((k : Int) < (n : Int)) = true := decide_eq_true hlt'
        obtain ⟨u, hu⟩ : ∃ u, (srtV L)[k]? = some u := ⟨(srtV L)[k]'(by have := hlen.out; omega), List.getElem?_eq_getElem _⟩
        have e1 : (srtV L).drop k = u :: (srtV L).drop (k + 1) := by
          obtain ⟨h1, h2⟩ := List.getElem?_eq_some_iff.1 hu
          rw [← h2]; exact List.drop_eq_getElem_cons h1
        have e2 : ((srtV L).map Vi.j).take (k + 1) = ((srtV L).map Vi.j).take k ++ [u.j] := take_next (by rw [List.getElem?_map, hu]; rfl)
        have HT' := HT.out
        rw [e1] at HT'
        have H23 : Hid (Calls Try.prog 23 #[.pointer (some ⟨lb, 0, none⟩)] wr fun e w' => e = .returned (.tuple #[.int .i64 u.j, .int .i64 0]) ∧ Hid (TuS w w' lb ((srtV L).drop (k + 1)) (.slice p k c') (((srtV L).map Vi.j).take k) NoT ∧ ∀ k, NoT k → w'.heap[k]? = wr.heap[k]?)) := HT'.next
        have HE : Hid (((srtV L).map Vi.j).take (k + 1) = ((srtV L).map Vi.j).take k ++ [u.j]) := e2
        clear hu e1 e2 HT' HT
        generalize u.j = uj at *
        go_wp2_with (first | (go_at_call 23; refine H23.out.mono ?_; rintro e w4 ⟨rfl, h4⟩) | (at_builtin; refine append_j (B := w.heap.size) rfl _ _ rfl p k c' (((srtV L).map Vi.j).take k) uj rfl (h4.out.1.r.below ((Below.refl _ _).alloc (Nat.le_refl _) _)) (Nat.le_trans h4.out.1.l.b.size (by simp)) _ 1 rfl (Lib.cell_of_heap new0 0) (by omega) ?_; intro p3 c3 w5 hr5 hg5 hn5; have h5 : Hid (TuS w w5 lb ((srtV L).drop (k + 1)) (.slice p3 (k + 1) c3) (((srtV L).map Vi.j).take (k + 1)) NoT) := (by show TuS _ _ _ _ _ _ _; rw [HE.out]; exact ((h4.out.1.same ((Below.refl _ _).alloc (Nat.le_refl _) _)).app hr5 hg5 hn5).1)))
        refine ⟨⟨k + 1, p3, c3, by simp, by simp, by omega, h5.out⟩, by simp only [intOf]; omega⟩
  · have HR : Hid (turR L = (5, [])) := by show _ = _; unfold turR; rw [if_neg hU]
    have H21' : Hid (Calls Try.prog 21 #[.slice q n c] w fun e w' => ∃ mv, e = .returned (.tuple #[.map mv, .int .i64 5]) ∧ Hid (Below w.heap.size w w')) := by
      refine H21.out.mono ?_
      rintro e w' ⟨mv, rfl, h⟩
      exact ⟨mv, by rw [if_neg hU], h.out.2⟩
    go_enter Try.func10, Try.ntmps10
    go_wp2_with (go_at_call 21; refine H21'.out.mono ?_; rintro e w1 ⟨mv, rfl, b1⟩)
    go_ret2
    unfold TurP
    rw [HR.out]
    exact ⟨none, 0, 0, rfl, rfl, GRow.nil _ _ _ _ _, b1.out⟩
end Go.Proofs.Ytcfnonfghlgphaa
