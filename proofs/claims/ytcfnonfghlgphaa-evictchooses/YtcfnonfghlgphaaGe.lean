/-
  Victims are put in a line.
-/
import Derived.Test.YtcfnonfghlgphaaGd
namespace Go.Proofs.Ytcfnonfghlgphaa
open Go.RowKit Go.Maps

def pf (b : Nat) : List Value := [.pointer (some ⟨b, 0, none⟩)]
theorem pf_len (b : Nat) : (pf b).length = 1 := rfl
theorem pf_one (b : Nat) : ∀ u ∈ pf b, u.oneCell' = true := by
  intro u hu
  simp only [pf, List.mem_cons, List.not_mem_nil, or_false] at hu
  subst hu; rfl
theorem info87 : (Try.prog.info? 87).map (fun i => (i.zero, i.size, i.bytes)) = some (some (.pointer none), 1, 8) := by kernel_rfl
section
variable {w0 w w' : World} {lb hb gr c g : Nat} {C : Hp.Ct} {P : List (Nat × Vi)} {R : List Vi} {T : Nat → Prop} {v : Vi}
/-- one more in the heap -/
theorem LnH.ins (h : LnH w0 w lb hb gr c g C P R T) (hg : ∀ e ∈ P, e.1 < g) (hv : (kOf v).ok) (hlt : g < 1048576) : Calls Try.prog 38 #[.pointer (some ⟨hb, 0, none⟩), Hp.ktup (kOf v)] w fun e w' => e = .returned (.tuple #[.int .i64 g, .int .i64 0]) ∧ LnH w0 w' lb hb gr c (g + 1) (C.put g (kOf v)) (P ++ [(g, v)]) (R ++ [v]) T ∧ Below w0.heap.size w0 w' := by
  refine (Hp.lw_insert h.l (kOf v) hv hlt).mono ?_
  rintro e w' ⟨rfl, h1, h2⟩
  refine ⟨rfl, ⟨?_, ?_, ?_, ?_, ?_, ?_, h.tr, h.gl⟩, h1.b⟩
  · rw [List.length_append]; exact h1
  · exact (cell_eq (h2 lb (.inr (.inl rfl)))).trans h.c0
  · exact (cell_eq (h2 gr (.inr (.inr rfl)))).trans h.c1
  · intro x k
    unfold Hp.Ct.put
    by_cases q : x = (g : Int)
    · rw [if_pos q]
      constructor
      · intro e
        cases e
        exact ⟨(g, v), List.mem_append_right _ (List.mem_singleton.2 rfl), q.symm, rfl⟩
      · rintro ⟨e, he, e1, e2⟩
        rcases List.mem_append.1 he with he | he
        · have := hg e he
          omega
        · obtain rfl := List.mem_singleton.1 he
          rw [← e2]
    · rw [if_neg q, h.h x k]
      constructor
      · rintro ⟨e, he, e1, e2⟩
        exact ⟨e, List.mem_append_left _ he, e1, e2⟩
      · rintro ⟨e, he, e1, e2⟩
        rcases List.mem_append.1 he with he | he
        · exact ⟨e, he, e1, e2⟩
        · obtain rfl := List.mem_singleton.1 he
          exact absurd e1.symm q
  · rw [List.map_append, List.nodup_append]
    refine ⟨h.n, by simp, fun a ha b hb => ?_⟩
    obtain ⟨e, he, rfl⟩ := List.mem_map.1 ha
    have := hg e he
    simp only [List.map_cons, List.map_nil, List.mem_singleton] at hb
    omega
  · rw [List.map_append]
    exact h.p.append_right _
/-- a heap of one, told by the line -/
theorem LnH.mk1 (b : Below w0.heap.size w0 w) (hv : (kOf v).ok) : Calls Try.prog 38 #[.pointer (some ⟨w.heap.size, 0, none⟩), Hp.ktup (kOf v)] (w.alloc (.cells Hp.zeroH 114)) fun e w' => e = .returned (.tuple #[.int .i64 0, .int .i64 0]) ∧ Hp.Lw w0 w' w.heap.size (Hp.Ct.nil.put 0 (kOf v)) 1 1 (fun k => k < w.heap.size) ∧ ∀ k, k < w.heap.size → w'.heap[k]? = w.heap[k]? := by
  have h0 := Hp.lw_new w0 w (fun k => k < w.heap.size) b (fun _ h => h)
  refine (Hp.lw_insert h0 (kOf v) hv (by decide)).mono ?_
  rintro e w' ⟨rfl, h1, h2⟩
  exact ⟨rfl, h1, fun k hk => (h2 k hk).trans (Below.heap_alloc _ _ k hk)⟩
theorem LnH.one {p3 : Option Addr} {c3 : Nat} {w2 w3 : World} (hl : lb < hb) (h0 : w0.heap.size ≤ lb) (hb2 : hb < w.heap.size) (b2 : w.heap.size ≤ w2.heap.size) (k : Kp NoT w w2) (h : Hp.Lw w0 w hb (Hp.Ct.nil.put 0 (kOf v)) 1 1 (fun k => k < hb)) (r : GRow 87 1 pf w2.heap.size w3 (.slice p3 1 c3) [hb]) (k3 : Below w2.heap.size w2 w3) (hc : w3.heap[lb]? = some (.cells #[.slice none 0 0] 86 (0, 0))) : ∃ gr, p3 = some ⟨gr, 0, none⟩ ∧ LnH w0 (w3.setCell ⟨lb, 0, none⟩ (.slice p3 1 c3)) lb hb gr c3 1 (Hp.Ct.nil.put 0 (kOf v)) [(0, v)] [v] NoT := by
  obtain ⟨gr, e, hcell⟩ := r.at pf_len (i := 0) (o := hb) rfl
  subst e
  have hgr := r.ge (g := gr) rfl
  have hgl := r.lt (g := gr) rfl
  have k1 : Kp NoT w w3 := k.trans (Kp.of_below k3) fun _ _ e => e
  have h3 : Hp.Lw w0 w3 hb (Hp.Ct.nil.put 0 (kOf v)) 1 1 (fun k => False ∨ k = lb ∨ k = gr) := lw_kp h k1 (fun _ e => e.elim) fun x e => by
    rcases e with e | e | e
    · exact e.elim
    · subst e; exact ⟨by have := k1.size; omega, .inl hl⟩
    · subst e; exact ⟨hgl, .inr (by omega)⟩
  have hne : gr ≠ lb := by omega
  refine ⟨gr, rfl, ⟨h3.set _ _ (.inr (.inl rfl)) h0, ?_, ?_, ?_, by simp, by simp, fun e => e, by omega⟩⟩
  · rw [cell_of (setB hc _)]
    rfl
  · refine (cell_eq (Below.heap_setCell _ _ _ _ hne)).trans ?_
    have := hcell 0 _ rfl
    exact this
  · intro x k
    unfold Hp.Ct.put Hp.Ct.nil
    constructor
    · intro e
      split at e
      · cases e
        rename_i q
        exact ⟨(0, v), List.mem_singleton.2 rfl, q.symm, rfl⟩
      · cases e
    · rintro ⟨e, he, e1, e2⟩
      obtain rfl := List.mem_singleton.1 he
      rw [if_pos e1.symm, e2]
end
/-- while victims are put in -/
def LdR (w wr : World) (lb : Nat) (L : List Vi) (k : Nat) (x : Value) : Prop := (k = 0 ∧ x = .pointer none ∧ wr.heap[lb]? = some (.cells #[.slice none 0 0] 86 (0, 0)) ∧ Below w.heap.size w wr ∧ w.heap.size ≤ lb) ∨ ∃ hb gr c C P, x = .pointer (some ⟨hb, 0, none⟩) ∧ LnH w wr lb hb gr c k C P (L.take k) NoT ∧ (∀ e ∈ P, e.1 < k) ∧ Below w.heap.size w wr ∧ w.heap.size ≤ lb
def LndR (w : World) (L : List Vi) (e : Ending) (w' : World) : Prop := ∃ lb, e = .returned (.pointer (some ⟨lb, 0, none⟩)) ∧ Hid (w.heap.size ≤ lb ∧ LnS w w' lb (srtV L) NoT)
theorem LdR.done {w wr : World} {lb : Nat} {L : List Vi} {x : Value} (h : LdR w wr lb L L.length x) (hu : Uj L) (ho : VIn L) : LnS w wr lb (srtV L) NoT := by
  have o1 : ∀ v ∈ srtV L, in64 v.j ∧ in64 v.p ∧ in64 v.s := fun v hv => by
    exact ho v ((srtV_perm L).mem_iff.1 hv)
  rcases h with ⟨h1, h2, h3, h4, h5⟩ | ⟨hb, gr, c, C, P, h1, h2, h3, h4, h5⟩
  · have : L = [] := List.eq_nil_of_length_eq_zero h1
    subst this
    refine ⟨h4, fun _ e => e.elim, fun e => e, hu, List.Pairwise.nil, o1, h5, .inl ⟨rfl, ?_⟩⟩
    rw [cell_of h3]; rfl
  · rw [List.take_length] at h2
    exact ⟨h4, fun _ e => e.elim, fun e => e, hu.perm (srtV_perm L).symm, srtV_tu L hu, o1, h5, .inr ⟨hb, gr, c, _, C, P, h2.l, h2.c0, h2.c1, h2.h, h2.n, h2.p.trans (srtV_perm L).symm, h2.tr, h2.gl⟩⟩
set_option maxHeartbeats 2000000 in
set_option maxRecDepth 100000 in
theorem lined_any (w : World) (q : Option Addr) (n c : Nat) (L : List Vi) (hL : Hid (VA w q L)) (hO : Hid (VIn L)) (hu : Hid (Uj L)) (hn : Hid (L.length = n)) (n1 : n ≤ 1000000) :
    Calls Try.prog 22 #[.slice q n c] w (LndR w L) := by
  go_enter Try.func22, Try.ntmps22
  go_upto_region 2 with fail
  have N0 := new0 (w := w) (o := .cells #[.slice none 0 0] 86)
  have R0 : Hid (LdR w (w.alloc (.cells #[.slice none 0 0] 86)) w.heap.size L 0 (.pointer none)) := .inl ⟨rfl, rfl, N0, (Below.refl _ w).alloc (Nat.le_refl _) _, Nat.le_refl _⟩
  clear N0
  generalize w.alloc (.cells #[.slice none 0 0] 86) = W at *
  obtain ⟨lb, hlb⟩ : ∃ lb, lb = w.heap.size := ⟨_, rfl⟩
  rw [← hlb] at R0 ⊢
  clear hlb
  go_wp2_with fail
  go_loopw [4, 13] (fun x y wr => ∃ k : Nat, y = .int .i64 k ∧ k ≤ n ∧ Hid (LdR w wr lb L k x)) (fun _ y _ => n - (intOf y).toNat)
  case atStart => exact ⟨0, rfl, Nat.zero_le _, R0.out⟩
  case round =>
    clear R0
    obtain ⟨k, rfl, hk, HB⟩ := hrel
    by_cases h0 : k = n
    · subst h0
      have HD : Hid (LnS w wr lb (srtV L) NoT ∧ w.heap.size ≤ lb) := by
        have h1 := HB.out
        rw [← hn.out] at h1
        refine ⟨h1.done hu.out hO.out, ?_⟩
        rcases h1 with h | ⟨_, _, _, _, _, h⟩
        · exact h.2.2.2.2
        · exact h.2.2.2.2
      clear HB
      go_wp2_with fail
      go_ret
      exact ⟨lb, rfl, HD.out.2, HD.out.1⟩
    · have hlt' : (k : Int) < (n : Int) := by omega
      have hd : decide ((k : Int) < (n : Int)) = true := decide_eq_true hlt'
      obtain ⟨v, hv⟩ : ∃ v, L[k]? = some v := ⟨L[k]'(by have := hn.out; omega), List.getElem?_eq_getElem _⟩
      have hb0 : Below w.heap.size w wr := by
        rcases HB.out with h | ⟨_, _, _, _, _, h⟩
        · exact h.2.2.2.1
        · exact h.2.2.2.1
      obtain ⟨gv, ov, rfl, c0, c1, c2, c3, c4⟩ := VA.at (hL.out.below hb0) hv
      have hvo := hO.out v (List.mem_of_getElem? hv)
      have H39 : Hid (∀ w, Calls Try.prog 39 #[.agg #[.int .i64 v.j, .int .i64 v.p, .int .i64 v.s, .slice v.qT v.nT v.cT, .slice v.qN v.nN v.cN]] w fun e w' => e = .returned (.agg #[.int .i64 v.p, .int .i64 (-1 - v.s), .int .i64 (-1 - v.j)]) ∧ Below w.heap.size w w') := fun w1 => key_any v w1 hvo
      have HV : Hid (L[k]? = some v ∧ (kOf v).ok) := ⟨hv, kOf_ok hvo⟩
      have ht : L.take (k + 1) = L.take k ++ [v] := take_next hv
      have HT : Hid (L.take (k + 1) = L.take k ++ [v]) := ht
      have hwr := hb0.size
      rcases HB.out with ⟨h1, h2, h3, h4, h5⟩ | ⟨hb, gr, cr, C, P, h1, h2, h3, h4, h5⟩
      · subst h2
        have HN : Hid (∀ w, Calls Try.prog 40 #[] w fun e w' => e = .returned (.pointer (some ⟨w.heap.size, 0, none⟩)) ∧ w' = w.alloc (.cells Hp.zeroH 114)) := fun w => Hp.new_at w
        have H38n : Hid (∀ w, Calls Try.prog 38 #[.pointer none, .agg #[.int .i64 v.p, .int .i64 (-1 - v.s), .int .i64 (-1 - v.j)]] w fun e w' => e = .returned (.tuple #[.int .i64 0, .int .i64 10]) ∧ Below w.heap.size w w') := fun w => Hp.insert_nil (kOf v) w
        have H38 : Hid (∀ w1, Below w.heap.size w w1 → ∀ w2, Below (w1.alloc (.cells Hp.zeroH 114)).heap.size (w1.alloc (.cells Hp.zeroH 114)) w2 → Calls Try.prog 38 #[.pointer (some ⟨w1.heap.size, 0, none⟩), .agg #[.int .i64 v.p, .int .i64 (-1 - v.s), .int .i64 (-1 - v.j)]] w2 fun e w' => e = .returned (.tuple #[.int .i64 0, .int .i64 0]) ∧ Hid (Hp.Lw w w' w1.heap.size (Hp.Ct.nil.put 0 (kOf v)) 1 1 (fun k => k < w1.heap.size) ∧ ∀ k, k < w1.heap.size → w'.heap[k]? = w1.heap[k]?)) := fun w1 b1 w2 b2 => by
          have l0 := (Hp.lw_new w w1 (fun k => k < w1.heap.size) b1 (fun _ h => h)).below b2
          refine (Hp.lw_insert l0 (kOf v) HV.out.2 (by decide)).mono ?_
          rintro e w' ⟨rfl, a1, a2⟩
          exact ⟨rfl, a1, fun k hk => ((a2 k hk).trans (b2.block k (by simp; omega))).trans (Below.heap_alloc _ _ k hk)⟩
        have HL : Hid (wr.heap[lb]? = some (.cells #[.slice none 0 0] 86 (0, 0)) ∧ w.heap.size ≤ lb) := ⟨h3, h5⟩
        have HK : Hid (k = 0) := h1
        clear h1 h3 h4 hv hvo HB ht
        generalize hj : v.j = vj at *
        generalize hp : v.p = vp at *
        generalize hs : v.s = vs at *
        clear hj hp hs
        go_upto_region 6 with fail
        have B1 : Hid (Below wr.heap.size wr (wr.alloc (.cells #[.int .i64 vj, .int .i64 vp, .int .i64 vs, .slice v.qT v.nT v.cT, .slice v.qN v.nN v.cN] 49))) := (Below.refl _ _).alloc (Nat.le_refl _) _
        have N1 := new0 (w := wr) (o := .cells #[.int .i64 vj, .int .i64 vp, .int .i64 vs, .slice v.qT v.nT v.cT, .slice v.qN v.nN v.cN] 49)
        generalize wr.alloc (.cells #[.int .i64 vj, .int .i64 vp, .int .i64 vs, .slice v.qT v.nT v.cT, .slice v.qN v.nN v.cN] 49) = W1 at *
        have d0 := Lib.cell_of_heap N1 0
        have d1 := Lib.cell_of_heap N1 1
        have d2 := Lib.cell_of_heap N1 2
        have d3 := Lib.cell_of_heap N1 3
        have d4 := Lib.cell_of_heap N1 4
        go_upto_region 8 with (first | (go_at_call 39; refine (H39.out _).mono ?_; rintro e w2 ⟨rfl, b2⟩) | (go_at_call 38; refine (H38n.out _).mono ?_; rintro e w3 ⟨rfl, b3⟩))
        have B3 : Hid (Below wr.heap.size wr w3) := below_from (below_from B1.out b2 B1.out.size) b3 (Nat.le_trans B1.out.size b2.size)
        have N3 : w3.heap[wr.heap.size]? = some (.cells #[.int .i64 vj, .int .i64 vp, .int .i64 vs, .slice v.qT v.nT v.cT, .slice v.qN v.nN v.cN] 49 (0, 0)) := at_below b3 (Nat.le_refl _) (at_below b2 (Nat.le_refl _) N1)
        go_upto_region 9 with (go_at_call 40; refine (HN.out _).mono ?_; rintro e w4 ⟨rfl, rfl⟩)
        clear d0 d1 d2 d3 d4 b2 b3 N1 B1
        have BW : Hid (Below w.heap.size w w3) := below_from hb0 B3.out hwr
        have H38' := H38.out w3 BW.out
        have N4 := at_alloc (o := .cells Hp.zeroH 114) N3
        generalize w3.alloc (.cells Hp.zeroH 114) = W4 at *
        have d0 := Lib.cell_of_heap N4 0
        have d1 := Lib.cell_of_heap N4 1
        have d2 := Lib.cell_of_heap N4 2
        have d3 := Lib.cell_of_heap N4 3
        have d4 := Lib.cell_of_heap N4 4
        have H38'' : Hid (∀ w2, Below W4.heap.size W4 w2 → Calls Try.prog 38 #[.pointer (some ⟨w3.heap.size, 0, none⟩), .agg #[.int .i64 vp, .int .i64 (-1 - vs), .int .i64 (-1 - vj)]] w2 fun e w' => e = .returned (.tuple #[.int .i64 0, .int .i64 0]) ∧ Hid (Hp.Lw w w' w3.heap.size (Hp.Ct.nil.put 0 (kOf v)) 1 1 (fun k => k < w3.heap.size) ∧ ∀ k, k < w3.heap.size → w'.heap[k]? = w3.heap[k]?)) := H38'
        clear H38' H38 H38n HN
        go_upto_region 10 with (first | (go_at_call 39; refine (H39.out _).mono ?_; rintro e w5 ⟨rfl, b5⟩) | (go_at_call 38; refine (H38''.out _ b5).mono ?_; rintro e w6 ⟨rfl, h6⟩))
        clear d0 d1 d2 d3 d4 b5 N4 N3 H38'' H39
        have hl3 : lb < w3.heap.size := Nat.lt_of_lt_of_le (Array.getElem?_eq_some_iff.1 HL.out.1).1 B3.out.size
        have N6 : w6.heap[lb]? = some (.cells #[.slice none 0 0] 86 (0, 0)) := (h6.out.2 lb hl3).trans ((B3.out.block lb (Array.getElem?_eq_some_iff.1 HL.out.1).1).trans HL.out.1)
        have m0 := Lib.cell_of_heap N6 0
        have hl6 := (Array.getElem?_eq_some_iff.1 N6).1
        have KX : Hid (∀ p3 c3 w7, GRow 87 1 pf w6.heap.size w7 (.slice p3 1 c3) [w3.heap.size] → Below w6.heap.size w6 w7 → ∃ gr, p3 = some ⟨gr, 0, none⟩ ∧ w7.heap[lb]? = some (.cells #[.slice none 0 0] 86 (0, 0)) ∧ Hid (LdR w (w7.setCell ⟨lb, 0, none⟩ (.slice p3 1 c3)) lb L (k + 1) (.pointer (some ⟨w3.heap.size, 0, none⟩)))) := fun p3 c3 w7 r b => by
          have N7 : w7.heap[lb]? = some (.cells #[.slice none 0 0] 86 (0, 0)) := (b.block lb hl6).trans N6
          have hl := h6.out.1
          have hs6 : w3.heap.size < w6.heap.size := by
            obtain ⟨S, h1, h2⟩ := hl.ex
            exact h1.h.lt _ (.inl rfl)
          obtain ⟨gr, e, h7⟩ := LnH.one (w := w6) hl3 HL.out.2 hs6 (Nat.le_refl _) (Kp.refl _ _) hl r b N7
          refine ⟨gr, e, N7, .inr ⟨_, gr, c3, Hp.Ct.nil.put 0 (kOf v), [(0, v)], rfl, ?_, fun e he => ?_, ?_, HL.out.2⟩⟩
          · rw [HT.out, HK.out]
            exact h7
          · obtain rfl := List.mem_singleton.1 he
            rw [HK.out]; exact Nat.lt_succ_self 0
          · exact h7.l.b
        go_wp2_with (at_builtin; refine append_g (B := w6.heap.size) pf_len pf_one Try.underlying84 info87 rfl (by decide) rfl _ _ rfl none 0 0 [] rfl (GRow.nil _ _ _ _ _) (by simp) _ 0 1 1 [w3.heap.size] rfl rfl (row_one new0 rfl) (by unfold maxLen; omega) (by omega) ?_; intro p3 c3 w7 hr7 hb7; obtain ⟨gr, rfl, N7, h7⟩ := KX.out p3 c3 w7 hr7 (((Below.refl _ _).alloc (Nat.le_refl _) _).trans hb7); have n0 := Lib.cell_of_heap N7 0; have f0 := fz N7 0; have hl7 := (Array.getElem?_eq_some_iff.1 N7).1)
        refine ⟨⟨k + 1, by simp, by omega, h7.out⟩, by simp only [intOf]; omega⟩
      · subst h1
        have H38 : Hid (∀ w1, Below wr.heap.size wr w1 → Calls Try.prog 38 #[.pointer (some ⟨hb, 0, none⟩), .agg #[.int .i64 v.p, .int .i64 (-1 - v.s), .int .i64 (-1 - v.j)]] w1 fun e w' => e = .returned (.tuple #[.int .i64 k, .int .i64 0]) ∧ Hid (LdR w w' lb L (k + 1) (.pointer (some ⟨hb, 0, none⟩)))) := fun w1 b1 => by
          refine ((h2.below b1).ins h3 HV.out.2 (by omega)).mono ?_
          rintro e w' ⟨rfl, a1, a2⟩
          refine ⟨rfl, .inr ⟨hb, gr, cr, C.put k (kOf v), P ++ [(k, v)], rfl, ?_, fun e he => ?_, a2, h5⟩⟩
          · rw [HT.out]; exact a1
          · rcases List.mem_append.1 he with he | he
            · have := h3 e he; omega
            · obtain rfl := List.mem_singleton.1 he; exact Nat.lt_succ_self _
        clear h2 h3 h4 hv hb0 hvo HB ht
        generalize v.j = vj at *
        generalize v.p = vp at *
        generalize v.s = vs at *
        go_upto_region 6 with fail
        have B1 : Hid (Below wr.heap.size wr (wr.alloc (.cells #[.int .i64 vj, .int .i64 vp, .int .i64 vs, .slice v.qT v.nT v.cT, .slice v.qN v.nN v.cN] 49))) := (Below.refl _ _).alloc (Nat.le_refl _) _
        have N1 := new0 (w := wr) (o := .cells #[.int .i64 vj, .int .i64 vp, .int .i64 vs, .slice v.qT v.nT v.cT, .slice v.qN v.nN v.cN] 49)
        generalize wr.alloc (.cells #[.int .i64 vj, .int .i64 vp, .int .i64 vs, .slice v.qT v.nT v.cT, .slice v.qN v.nN v.cN] 49) = W1 at *
        have d0 := Lib.cell_of_heap N1 0
        have d1 := Lib.cell_of_heap N1 1
        have d2 := Lib.cell_of_heap N1 2
        have d3 := Lib.cell_of_heap N1 3
        have d4 := Lib.cell_of_heap N1 4
        go_wp2_with (first | (go_at_call 39; refine (H39.out _).mono ?_; rintro e w2 ⟨rfl, b2⟩; have b3 : Hid (Below wr.heap.size wr w2) := below_from B1.out b2 B1.out.size) | (go_at_call 38; refine (H38.out _ b3.out).mono ?_; rintro e w3 ⟨rfl, h3⟩))
        refine ⟨⟨k + 1, by simp, by omega, h3.out⟩, by simp only [intOf]; omega⟩
end Go.Proofs.Ytcfnonfghlgphaa
