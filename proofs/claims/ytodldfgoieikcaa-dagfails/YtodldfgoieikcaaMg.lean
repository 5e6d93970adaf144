/-
  What numbers descend from: the program's walk.
-/
import Derived.Test.YtodldfgoieikcaaMf
namespace Go.Proofs.Ytodldfgoieikcaa
open Go.RowKit Go.Maps

/-- while it is looked for -/
structure Lg (ps : Nat → Nat → Bool) (s seen : Nat → Bool) (E : List Int) : Prop where
  a : ∀ x ∈ E, ∃ i : Nat, x = i ∧ Rch ps s i
  b : ∀ i, i < 101 → seen i = true → Rch ps s i
  c : ∀ i, i < 101 → s i = true → seen i = true ∨ (i : Int) ∈ E
  d : ∀ i j, i < 101 → j < 101 → seen i = true → ps i j = true → seen j = true ∨ (j : Int) ∈ E
  n : E.length + 102 * cnt seen ≤ 20000
theorem Lg.start (ps : Nat → Nat → Bool) (s : Nat → Bool) : Lg ps s s0 (lsI s) := by
  refine ⟨fun x hx => ?_, (fun i _ h => by cases h), fun i hi h => .inr (lsK_mem.2 ⟨i, rfl, hi, h⟩), (fun i j _ _ h => by cases h), ?_⟩
  · obtain ⟨i, rfl, h1, h2⟩ := lsK_mem.1 hx
    exact ⟨i, rfl, .base h1 h2⟩
  · have := lsI_len s
    have := cnt_le s0
    omega
theorem Lg.old {ps : Nat → Nat → Bool} {s seen : Nat → Bool} {E : List Int} {i : Nat} (h : Lg ps s seen (E ++ [(i : Int)])) (hs : seen i = true) : Lg ps s seen E := by
  refine ⟨fun x hx => h.a x (List.mem_append_left _ hx), h.b, fun j hj hq => ?_, fun k j hk hj h1 h2 => ?_, by have := h.n; simp at this; omega⟩
  · rcases h.c j hj hq with q | q
    · exact .inl q
    · rcases List.mem_append.1 q with q | q
      · exact .inr q
      · simp at q; exact .inl (by have : j = i := by omega
                                  rw [this]; exact hs)
  · rcases h.d k j hk hj h1 h2 with q | q
    · exact .inl q
    · rcases List.mem_append.1 q with q | q
      · exact .inr q
      · simp at q; exact .inl (by have : j = i := by omega
                                  rw [this]; exact hs)
theorem Lg.new {ps : Nat → Nat → Bool} {s seen : Nat → Bool} {E : List Int} {i : Nat} (h : Lg ps s seen (E ++ [(i : Int)])) (hi : i < 101) (hs : seen i = false) : Lg ps s (sset seen i true) (E ++ lsI (ps i)) := by
  have hr : Rch ps s i := by
    obtain ⟨j, h1, h2⟩ := h.a i (by simp)
    have : i = j := by omega
    rw [this]; exact h2
  have hss : ∀ j, seen j = true → sset seen i true j = true := fun j hj => by unfold sset; split <;> simp_all
  refine ⟨fun x hx => ?_, fun j hj hq => ?_, fun j hj hq => ?_, fun k j hk hj h1 h2 => ?_, ?_⟩
  · rcases List.mem_append.1 hx with q | q
    · exact h.a x (List.mem_append_left _ q)
    · obtain ⟨j, rfl, h1, h2⟩ := lsK_mem.1 q
      exact ⟨j, rfl, .step hr h1 h2⟩
  · by_cases e : j = i
    · rw [e]; exact hr
    · exact h.b j hj (by simpa [sset, e] using hq)
  · by_cases e : j = i
    · exact .inl (by simp [sset, e])
    · rcases h.c j hj hq with q | q
      · exact .inl (hss j q)
      · rcases List.mem_append.1 q with q | q
        · exact .inr (List.mem_append_left _ q)
        · simp at q; omega
  · by_cases e : k = i
    · rw [e] at h2
      exact .inr (List.mem_append_right _ (lsK_mem.2 ⟨j, rfl, hj, h2⟩))
    · by_cases e2 : j = i
      · exact .inl (by simp [sset, e2])
      · rcases h.d k j hk hj (by simpa [sset, e] using h1) h2 with q | q
        · exact .inl (hss j q)
        · rcases List.mem_append.1 q with q | q
          · exact .inr (List.mem_append_left _ q)
          · simp at q; omega
  · have := h.n
    have h2 := cnt_less hi hs
    have h3 := lsI_len (ps i)
    simp at this ⊢
    omega
theorem Lg.done {ps : Nat → Nat → Bool} {s seen : Nat → Bool} (h : Lg ps s seen []) : ∀ i, i < 101 → (seen i = true ↔ Rch ps s i) := by
  intro i hi
  refine ⟨h.b i hi, fun hr => ?_⟩
  induction hr with
  | base h1 h2 =>
    rcases h.c _ h1 h2 with q | q
    · exact q
    · simp at q
  | step h1 h2 h3 ih =>
    rcases h.d _ _ h1.lt h2 (ih h1.lt) h3 with q | q
    · exact q
    · simp at q
theorem IRow.cap {b : Nat} {w : World} {q : Option Addr} {n c : Nat} {E : List Int} (h : IRow b w (.slice q n c) E) : n ≤ c := by
  rcases h.2 with ⟨e, _⟩ | ⟨g, cap, cur, e, _, _, h3, _⟩
  · injection e with e1 e2 e3
    omega
  · injection e with e1 e2 e3
    omega
structure Lm (w wr : World) (gb : Nat) (g : GS) (s seen : Nat → Bool) (v : Value) (E : List Int) : Prop where
  r : IRow (w.heap.size + 3) wr v E
  z : Sx wr (w.heap.size + 1) s0
  x : Sx wr (w.heap.size + 1 + 1) seen
  b : Below w.heap.size w wr
  l : Lg g.ps s seen E
  h : w.heap.size + 3 ≤ wr.heap.size
theorem below_up {B C : Nat} {a b c : World} (h : Below B a b) (k : Below C b c) (hB : B ≤ C) : Below B a c := h.trans (k.mono hB)
set_option maxHeartbeats 2000000 in
set_option maxRecDepth 100000 in
theorem lin_any {w : World} {gb : Nat} {g : GS} (h : Gr w gb g) (s : Nat → Bool) : Calls Try.prog 30 #[.pointer (some ⟨gb, 0, none⟩), .agg (sA s)] w fun e w' => ∃ r : Nat → Bool, e = .returned (.agg (sA r)) ∧ Hid ((∀ i, i < 101 → (r i = true ↔ Rch g.ps s i)) ∧ Below w.heap.size w w') := by
  have HG : Hid (Gr w gb g) := h
  have hlt := h.lt
  clear h
  have hz := zero49
  have HLS : Hid (∀ s w, Calls Try.prog 32 #[.agg (sA s)] w fun e w' => ∃ (p : Option Addr) (n c : Nat), e = .returned (.slice p n c) ∧ n ≤ 101 ∧ Hid (n = (lsI s).length ∧ IRow w.heap.size w' (.slice p n c) (lsI s) ∧ Below w.heap.size w w')) := fun s w => list_any w s
  have R1 : Hid (Sx (((w.alloc (.cells (sA s) 49)).alloc (.cells (sA s0) 49)).alloc (.cells (sA s0) 49)) w.heap.size s ∧ Sx (((w.alloc (.cells (sA s) 49)).alloc (.cells (sA s0) 49)).alloc (.cells (sA s0) 49)) (w.heap.size + 1) s0 ∧ Sx (((w.alloc (.cells (sA s) 49)).alloc (.cells (sA s0) 49)).alloc (.cells (sA s0) 49)) (w.heap.size + 1 + 1) s0 ∧ Below w.heap.size w (((w.alloc (.cells (sA s) 49)).alloc (.cells (sA s0) 49)).alloc (.cells (sA s0) 49)) ∧ (((w.alloc (.cells (sA s) 49)).alloc (.cells (sA s0) 49)).alloc (.cells (sA s0) 49)).heap.size = w.heap.size + 3) := ⟨((sx_new w _ _ rfl).alloc _).alloc _, (sx_new _ _ _ (by simp)).alloc _, sx_new _ _ _ (by simp), by go_grown, by simp⟩
  go_enter Try.func30, Try.ntmps30
  go_upto_region 2 with fail
  generalize ((w.alloc (.cells (sA s) 49)).alloc (.cells (sA s0) 49)).alloc (.cells (sA s0) 49) = W at *
  clear hz
  go_wp2_with (first
    | refine wpList_load_row rfl 49 _ rfl w.heap.size rfl 49 (sA s) (0, 0) _ R1.out.1 Try.underlying49 rfl (size49 _) ?_
    | (go_at_call 32; refine (HLS.out _ _).mono ?_; rintro e w1 ⟨p, n, c, rfl, hn, HL⟩))
  have L0 : Hid (Lm w w1 gb g s s0 (.slice p n c) (lsI s)) := by
    have hb := HL.out.2.2
    have h5 := R1.out.2.2.2.2
    have hR := HL.out.2.1
    rw [h5] at hb hR
    exact ⟨hR, R1.out.2.1.below hb (by omega), R1.out.2.2.1.below hb (by omega), below_up R1.out.2.2.2.1 hb (by omega), Lg.start _ _, by have := hb.size; rw [h5] at this; exact this⟩
  clear HL R1
  go_loopw [6] (fun t wr => ∃ (p : Option Addr) (n c : Nat) (seen : Nat → Bool) (E : List Int), t = .slice p n c ∧ n ≤ 20000 ∧ Hid (n = E.length ∧ Lm w wr gb g s seen (.slice p n c) E)) (fun t wr => (match t with | .slice _ n _ => n | _ => 0) + 102 * cntW wr (w.heap.size + 1 + 1))
  case atStart => exact ⟨p, n, c, s0, lsI s, rfl, by omega, L0.out.r.len, L0.out⟩
  case round =>
    clear L0 hn
    obtain ⟨p, n, c, seen, E, rfl, hn, HM⟩ := hrel
    have hM := HM.out.2
    have hgr : Gr wr gb g := HG.out.below hM.b hlt
    by_cases hn0 : n = 0
    · have hn' : ¬ (0 : Int) < (n : Int) := by omega
      have hn2 : decide ((0 : Int) < (n : Int)) = false := decide_eq_false hn'
      have HE : Hid (∀ i, i < 101 → (seen i = true ↔ Rch g.ps s i)) := by
        have e : E = [] := List.eq_nil_of_length_eq_zero (by have := HM.out.1; omega)
        have := hM.l
        rw [e] at this
        exact this.done
      have HS1 := hM.x
      have HS := hM.z
      have HB : Hid (Below w.heap.size w wr) := hM.b
      have HS2 : Hid (Sx (wr.setRow (w.heap.size + 1) (sA seen)) (w.heap.size + 1) seen) := HS.setRow
      have hsz : (sA s0).size = (sA seen).size := by rw [sA_size, sA_size]
      clear hgr hM HM hn0
      go_upto_region 9 with fail
      go_wp2_with (first
          | refine wpList_load_row rfl 49 _ rfl (w.heap.size + 1 + 1) rfl 49 (sA seen) (0, 0) _ HS1 Try.underlying49 rfl (size49 _) ?_
          | refine wpList_store_row rfl 49 _ _ rfl (w.heap.size + 1) (sA seen) rfl rfl 49 (sA s0) HS (size49 _) hsz (sA_one _) ?_)
      refine bodyPost_ret (results_cell_row Try.results30 _ _ (w.heap.size + 1) 49 (sA seen) (0, 0) _ rfl HS2.out Try.underlying49 rfl (size49 _)) rfl ?_
      exact ⟨seen, rfl, HE.out, below_setRow HB.out (by omega)⟩
    · obtain ⟨F, x, hF⟩ := list_last (E := E) (by have := HM.out.1; omega)
      obtain ⟨m, hm⟩ : ∃ m, n = m + 1 := ⟨n - 1, by omega⟩
      obtain ⟨gg, c', e0⟩ := hM.r.row (by have := HM.out.1; omega)
      injection e0 with e0 e1 e2
      clear e1 e2
      subst hF e0 hm
      have hmF : m = F.length := by have := HM.out.1; simp at this; exact this
      obtain ⟨i, rfl, hr⟩ := hM.l.a x (by simp)
      have hi := hr.lt
      have cx := hM.r.cell (i := m) (x := (i : Int)) (by rw [hmF]; simp)
      have hi' : (i : Int) < 101 := by omega
      have hm' : (m : Int) < (m : Int) + 1 := by omega
      have hm0 : (0 : Int) < (m : Int) + 1 := by omega
      have ci := hM.x.cell i hi
      have hpop := hM.r.pop
      have hcap : (m : Int) ≤ (c : Int) := by have := hM.r.cap; omega
      have hc0 : ¬ c = 0 := by have := hM.r.cap; omega
      cases hs : seen i
      · rw [hs] at ci
        have fi := hM.x.fz i
        have HR : Hid ((wr.setCell ⟨w.heap.size + 1 + 1, i, none⟩ (.bool true)).rangeAt gb (i * 102 + 1) (sL (g.ps i))) := (hgr.at (Below.heap_setCell _ _ _ _ (by show gb ≠ w.heap.size + 1 + 1; omega))).range i hi
        have HP : Hid (IRow (w.heap.size + 3) (wr.setCell ⟨w.heap.size + 1 + 1, i, none⟩ (.bool true)) (.slice (some ⟨gg, 0, none⟩) m c) F) := hpop.keep fun g' e => Below.heap_setCell _ _ _ _ (by have := hpop.ge e; show g' ≠ w.heap.size + 1 + 1; omega)
        have HQ : Hid (Sx (wr.setCell ⟨w.heap.size + 1 + 1, i, none⟩ (.bool true)) (w.heap.size + 1) s0 ∧ Sx (wr.setCell ⟨w.heap.size + 1 + 1, i, none⟩ (.bool true)) (w.heap.size + 1 + 1) (sset seen i true) ∧ Below w.heap.size w (wr.setCell ⟨w.heap.size + 1 + 1, i, none⟩ (.bool true)) ∧ w.heap.size + 3 ≤ (wr.setCell ⟨w.heap.size + 1 + 1, i, none⟩ (.bool true)).heap.size) := ⟨hM.z.other _ _ (by simp), hM.x.set i true, hM.b.setCell (by show w.heap.size ≤ w.heap.size + 1 + 1; omega) _, by have := hM.h; simpa using this⟩
        have HNL : Hid (Lg g.ps s (sset seen i true) (F ++ lsI (g.ps i)) ∧ m = F.length ∧ cntW wr (w.heap.size + 1 + 1) = cnt seen ∧ cnt (sset seen i true) + 1 = cnt seen) := ⟨hM.l.new hi hs, hmF, hM.x.cnt, cnt_less hi hs⟩
        clear hM HM hgr hr hpop hs hmF
        go_upto_region 8 with fail
        generalize wr.setCell ⟨w.heap.size + 1 + 1, i, none⟩ (.bool true) = W2 at *
        clear ci fi cx
        go_wp2_with (first
          | (refine wpList_load_mid rfl 49 _ rfl gb (i * 102 + 1) rfl (sL (g.ps i)) _ HR.out Try.underlying49 rfl (size49L _) ?_; rw [sA_list])
          | (go_at_call 32; refine (HLS.out _ _).mono ?_; rintro e w3 ⟨p3, n3, c3, rfl, hn3, HL⟩; have HP3 := HP.out.below HL.out.2.2; have HB3 : w.heap.size + 3 ≤ w3.heap.size := Nat.le_trans HQ.out.2.2.2 HL.out.2.2.size)
          | (at_builtin; refine append_row (wr := w3) (B := w.heap.size + 3) rfl _ _ rfl (some ⟨gg, 0, none⟩) m c F rfl HP3 HB3 p3 n3 c3 (lsI (g.ps i)) rfl HL.out.1 HL.out.2.1.ai HL.out.2.1.arg.1 HL.out.2.1.arg.2 (by omega) ?_; intro p4 c4 w4 R4 hB4))
        have hb3 := HL.out.2.2
        have hx4 : Sx w4 (w.heap.size + 1 + 1) (sset seen i true) := (HQ.out.2.1.below hb3 (by have := HQ.out.2.2.2; omega)).below hB4 (by omega)
        have hnn := HNL.out.1.n
        have hne : m + n3 = (F ++ lsI (g.ps i)).length := by rw [List.length_append, ← HL.out.1, ← HNL.out.2.1]
        refine ⟨⟨p4, m + n3, c4, sset seen i true, F ++ lsI (g.ps i), rfl, by omega, hne, R4, (HQ.out.1.below hb3 (by have := HQ.out.2.2.2; omega)).below hB4 (by omega), hx4, below_up (below_up HQ.out.2.2.1 hb3 (by have := HQ.out.2.2.2; omega)) hB4 (by omega), HNL.out.1, Nat.le_trans HB3 hB4.size⟩, ?_⟩
        have h1 := HNL.out.2.2.1
        have h2 := HNL.out.2.2.2
        have h3 := hx4.cnt
        simp only [h1, h3]
        omega
      · rw [hs] at ci
        have HN : Hid (m = F.length ∧ Lm w wr gb g s seen (.slice (some ⟨gg, 0, none⟩) m c) F) := ⟨hmF, hpop, hM.z, hM.x, hM.b, hM.l.old hs, hM.h⟩
        clear hM HM hgr hr hpop hs hmF
        go_wp2_with fail
        refine ⟨⟨_, m, c, seen, F, rfl, by omega, HN.out⟩, ?_⟩
        simp
end Go.Proofs.Ytodldfgoieikcaa
