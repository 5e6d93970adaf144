/-
  split, join. join; a vector taken away.
-/
import Derived.Test.YtjgibngnjlciaaaGreatPPc
namespace Go.Proofs.YtjgibngnjlciaaaGreat
open Go.RowKit Go.Maps

def PS.wl (S : PS) (v : Value) (l : List Stp) : PS := { S with lv := v, l := l }
theorem Mem.set {w : World} {pb : Nat} {S : PS} {v : Value} {l : List Stp} (h : w.heap[pb]? = some (.cells #[.int .i64 S.C.a, .int .i64 S.C.b, .int .i64 S.C.c, .int .i64 S.C.d, S.lv, .int .i64 S.n] 111 (0, 0))) (hr : Row w v l) (hv : v.ownBlock ≠ some pb) : Mem (w.setCell ⟨pb, 4, none⟩ v) pb (S.wl v l) :=
  ⟨setB (i := 4) h v, hr.keep fun g hg => Below.heap_setCell _ _ _ _ (fun e => hv (by rw [hg]; exact congrArg some e))⟩
/-- a row's change within a profile -/
theorem Chg.ins {w w1 w2 : World} {pb : Nat} {S : PS} {v : Value} {l : List Stp} (h : Mem w pb S) (hb : Below w.heap.size w w1) (k : Ins w1 w2 S.lv v l) : Mem (w2.setCell ⟨pb, 4, none⟩ v) pb (S.wl v l) ∧ Chg pb S (S.wl v l) w (w2.setCell ⟨pb, 4, none⟩ v) := by
  have hpb := h.lt pb (.inl rfl)
  have h1 := h.below hb
  have hv : v.ownBlock ≠ some pb := fun e => by
    rcases k.o with q | ⟨j, q1, q2⟩
    · exact h.ne (q ▸ e)
    · rw [e] at q1
      cases q1
      have := hb.size
      omega
  have h2 : w2.heap[pb]? = some (.cells #[.int .i64 S.C.a, .int .i64 S.C.b, .int .i64 S.C.c, .int .i64 S.C.d, S.lv, .int .i64 S.n] 111 (0, 0)) := (k.k.block pb (h1.lt pb (.inl rfl)) (fun q => h.ne q)).trans h1.hp
  refine ⟨Mem.set h2 k.r hv, ?_, fun j hj => ?_⟩
  · have k1 : Kp (Fp pb S) w w1 := Kp.of_below hb
    have k2 : Kp (Fp pb S) w1 w2 := k.k.mono fun j _ q => .inr q
    have k3 : Kp (Fp pb S) w2 (w2.setCell ⟨pb, 4, none⟩ v) := Kp.of_set _ _ _ (.inl rfl)
    exact (k1.trans k2 fun _ _ q => q).trans k3 fun _ _ q => q
  · rcases hj with rfl | hj
    · exact .inl (.inl rfl)
    · rcases k.o with q | ⟨i, q1, q2⟩
      · exact .inl (.inr (q ▸ hj))
      · have : v.ownBlock = some j := hj
        rw [q1] at this
        cases this
        exact .inr (Nat.le_trans hb.size q2)
set_option maxHeartbeats 1000000 in
theorem split_old (w : World) (pb g n c k : Nat) (t x : Int) (hk : k < n) (hn : n ≤ 60000) (hx : x = t) (c4 : w.cell? ⟨pb, 4, none⟩ = some (.slice (some ⟨g, 0, none⟩) n c)) (s0 : w.cell? ⟨g, k * 5, none⟩ = some (.int .i64 x))
    (H30 : Hid (Calls Tryz.prog 68 #[.pointer (some ⟨pb, 0, none⟩), .int .i64 t] w fun e w' => e = .returned (.int .i64 ((k : Int) + 1)) ∧ Below w.heap.size w w')) :
    Calls Tryz.prog 75 #[.pointer (some ⟨pb, 0, none⟩), .int .i64 t] w fun e w' => e = .returned (.int .i64 k) ∧ Below w.heap.size w w' := by
  subst hx
  have l0 := cell_lt c4
  have l1 := cell_lt s0
  have hk0 : (0 : Int) < (k : Int) + 1 := by omega
  have hk1 : (0 : Int) ≤ (k : Int) := by omega
  have hk2 : (k : Int) < (n : Int) := by omega
  have hw : IntKind.i64.wrap ((k : Int) + 1 - 1) = (k : Int) := by rw [IntKind.wrap_i64]; omega
  go_enter Tryz.func75, Tryz.ntmps75
  go_wp2_with (go_at_call 68; refine H30.out.mono ?_)
  first | rintro e w1 rfl b1 | rintro e w1 ⟨rfl, b1⟩
  have d4 := cell_below c4 b1
  have d0 := cell_below s0 b1
  clear c4 s0
  go_wp2_with fail
  go_ret
  exact ⟨rfl, b1⟩
/-- behind free: the step is built, and put in -/
def HI (w1 : World) (pb k : Nat) (t : Int) (u : V) (p0 : Option Addr) (n0 c0 : Nat) (Q : World → Prop) : Prop :=
  Calls Tryz.prog 67 #[.pointer (some ⟨pb, 0, none⟩), .int .i64 k] w1.drew fun e w' => e = .returned (.agg #[.int .i64 u.a, .int .i64 u.b, .int .i64 u.c, .int .i64 u.d]) ∧ (w'.cell? ⟨pb, 4, none⟩ = some (.slice p0 n0 c0) ∧ pb < w'.heap.size) ∧
    Hid (Calls Tryz.prog 93 #[.slice p0 n0 c0, .int .i64 k, .slice (some ⟨w'.heap.size, 0, none⟩) 1 1] (w'.alloc (.cells #[.int .i64 t, .int .i64 u.a, .int .i64 u.b, .int .i64 u.c, .int .i64 u.d] 96)) fun e w2 => ∃ (pa : Option Addr) (n' c' : Nat), e = .returned (.slice pa n' c') ∧ (w2.cell? ⟨pb, 4, none⟩ = some (.slice p0 n0 c0) ∧ w2.frozen? ⟨pb, 4, none⟩ = false) ∧ Hid (Q (w2.setCell ⟨pb, 4, none⟩ (.slice pa n' c'))))
set_option maxHeartbeats 2000000 in
theorem split_new0 (w : World) (pb : Nat) (t : Int) (u : V) (p0 : Option Addr) (n0 c0 : Nat) (Q : World → Prop)
    (H30 : Hid (Calls Tryz.prog 68 #[.pointer (some ⟨pb, 0, none⟩), .int .i64 t] w fun e w' => e = .returned (.int .i64 0) ∧ Hid (w'.cell? ⟨pb, 4, none⟩ = some (.slice p0 n0 c0)) ∧ Hid (HI w' pb 0 t u p0 n0 c0 Q))) :
    Calls Tryz.prog 75 #[.pointer (some ⟨pb, 0, none⟩), .int .i64 t] w fun e w' => e = .returned (.int .i64 0) ∧ Q w' := by
  go_enter Tryz.func75, Tryz.ntmps75
  go_wp2_with (go_at_call 68; refine H30.out.mono ?_)
  first | rintro e w1 rfl b1 h1 | rintro e w1 ⟨rfl, b1, h1⟩
  have zz := b1.out
  have H29 : Hid (Calls Tryz.prog 67 #[.pointer (some ⟨pb, 0, none⟩), .int .i64 0] w1.drew fun e w' => e = .returned (.agg #[.int .i64 u.a, .int .i64 u.b, .int .i64 u.c, .int .i64 u.d]) ∧ (w'.cell? ⟨pb, 4, none⟩ = some (.slice p0 n0 c0) ∧ pb < w'.heap.size) ∧
    Hid (Calls Tryz.prog 93 #[.slice p0 n0 c0, .int .i64 0, .slice (some ⟨w'.heap.size, 0, none⟩) 1 1] (w'.alloc (.cells #[.int .i64 t, .int .i64 u.a, .int .i64 u.b, .int .i64 u.c, .int .i64 u.d] 96)) fun e w2 => ∃ (pa : Option Addr) (n' c' : Nat), e = .returned (.slice pa n' c') ∧ (w2.cell? ⟨pb, 4, none⟩ = some (.slice p0 n0 c0) ∧ w2.frozen? ⟨pb, 4, none⟩ = false) ∧ Hid (Q (w2.setCell ⟨pb, 4, none⟩ (.slice pa n' c'))))) := h1.out
  clear h1 H30 b1
  go_wp2_with fail
  go_region_with (first | (go_at_call 67; refine H29.out.mono ?_; rintro e w3 ⟨rfl, ⟨z3, zn3⟩, h3⟩) | (go_at_call 93; refine h3.out.mono ?_; rintro e w4 ⟨pa, n', c', rfl, ⟨z4, zf4⟩, h4⟩))
  all_goals go_wp2_with fail
  all_goals go_ret
  all_goals exact ⟨rfl, h4.out⟩
set_option maxHeartbeats 2000000 in
theorem split_new1 (w : World) (pb k K g n0 c0 : Nat) (t x : Int) (u : V) (hK : (K : Int) = (k : Int) + 1) (hk : k < n0) (hn : n0 ≤ 60000) (hx : ¬ x = t) (Q : World → Prop)
    (H30 : Hid (Calls Tryz.prog 68 #[.pointer (some ⟨pb, 0, none⟩), .int .i64 t] w fun e w' => e = .returned (.int .i64 K) ∧ Hid (w'.cell? ⟨pb, 4, none⟩ = some (.slice (some ⟨g, 0, none⟩) n0 c0) ∧ w'.cell? ⟨g, k * 5, none⟩ = some (.int .i64 x)) ∧ Hid (HI w' pb K t u (some ⟨g, 0, none⟩) n0 c0 Q))) :
    Calls Tryz.prog 75 #[.pointer (some ⟨pb, 0, none⟩), .int .i64 t] w fun e w' => e = .returned (.int .i64 K) ∧ Q w' := by
  have hk0 : (0 : Int) < (K : Int) := by omega
  have hk1 : (0 : Int) ≤ (k : Int) := by omega
  have hk2 : (k : Int) < (n0 : Int) := by omega
  have hw : IntKind.i64.wrap ((K : Int) - 1) = (k : Int) := by rw [IntKind.wrap_i64]; omega
  have hxt : (x == t) = false := by simpa using hx
  clear hK hk hn
  go_enter Tryz.func75, Tryz.ntmps75
  go_wp2_with (go_at_call 68; refine H30.out.mono ?_)
  first | rintro e w1 rfl b1 h1 | rintro e w1 ⟨rfl, b1, h1⟩
  obtain ⟨zz, zx⟩ := b1.out
  have H29 : Hid (Calls Tryz.prog 67 #[.pointer (some ⟨pb, 0, none⟩), .int .i64 K] w1.drew fun e w' => e = .returned (.agg #[.int .i64 u.a, .int .i64 u.b, .int .i64 u.c, .int .i64 u.d]) ∧ (w'.cell? ⟨pb, 4, none⟩ = some (.slice (some ⟨g, 0, none⟩) n0 c0) ∧ pb < w'.heap.size) ∧
    Hid (Calls Tryz.prog 93 #[.slice (some ⟨g, 0, none⟩) n0 c0, .int .i64 K, .slice (some ⟨w'.heap.size, 0, none⟩) 1 1] (w'.alloc (.cells #[.int .i64 t, .int .i64 u.a, .int .i64 u.b, .int .i64 u.c, .int .i64 u.d] 96)) fun e w2 => ∃ (pa : Option Addr) (n' c' : Nat), e = .returned (.slice pa n' c') ∧ (w2.cell? ⟨pb, 4, none⟩ = some (.slice (some ⟨g, 0, none⟩) n0 c0) ∧ w2.frozen? ⟨pb, 4, none⟩ = false) ∧ Hid (Q (w2.setCell ⟨pb, 4, none⟩ (.slice pa n' c'))))) := h1.out
  clear h1 H30 b1
  go_wp2_with fail
  go_region_with (first | (go_at_call 67; refine H29.out.mono ?_; rintro e w3 ⟨rfl, ⟨z3, zn3⟩, h3⟩) | (go_at_call 93; refine h3.out.mono ?_; rintro e w4 ⟨pa, n', c', rfl, ⟨z4, zf4⟩, h4⟩))
  all_goals go_wp2_with fail
  all_goals go_ret
  all_goals exact ⟨rfl, h4.out⟩

structure SplR (w w' : World) (pb : Nat) (S S' : PS) (t : Int) (p : Nat) : Prop where
  m : Mem w' pb S'
  c : S'.C = S.C
  n : S'.n = S.n
  s : Spl S.C S.l t S'.l p
  g : Chg pb S S' w w'
theorem hi_any {w w1 : World} {pb : Nat} {S : PS} (h : Mem w pb S) (hb : Below w.heap.size w w1) (hs : Srt S.l) (hn : S.l.length ≤ 60000) (t : Int) (k : Nat) (hk : IsK S.l t k) (hne : ∀ (i : Nat) (s : Stp), S.l[i]? = some s → i < k → s.at' ≠ t) (p0 : Option Addr) (n0 c0 : Nat) (e0 : S.lv = .slice p0 n0 c0) :
    HI w1 pb k t (pv S.C S.l k) p0 n0 c0 fun w' => ∃ S', SplR w w' pb S S' t k := by
  have hB : Below w1.heap.size w1 w1.drew := (Below.refl _ w1).drew
  have h1 := h.below (hb.trans (hB.mono hb.size))
  have hpb := h.lt pb (.inl rfl)
  unfold HI
  refine (free_any h1 hn hk.le).mono ?_
  rintro e w' ⟨rfl, b1⟩
  have y1 : Below w.heap.size w w' := hb.trans ((hB.trans b1).mono hb.size)
  have h2 := h.below y1
  have c4 := h2.cells.2.2.2.2.1
  rw [e0] at c4
  refine ⟨rfl, ⟨c4, h2.lt pb (.inl rfl)⟩, ?_⟩
  have y2 := y1.alloc y1.size (.cells #[.int .i64 t, .int .i64 (pv S.C S.l k).a, .int .i64 (pv S.C S.l k).b, .int .i64 (pv S.C S.l k).c, .int .i64 (pv S.C S.l k).d] 96)
  have h3 := h.below y2
  have hr := h3.rw
  have hi := ins_any _ S.lv k w'.heap.size 1 S.l ⟨t, pv S.C S.l k⟩ hr hk.le hn new0 (fun e => by have := h2.rw.lt e; omega)
  rw [e0] at hi
  refine hi.mono ?_
  rintro e w2 ⟨v', rfl, k1⟩
  rw [← e0] at k1
  have k2 := Chg.ins h y2 k1
  obtain ⟨pa, ca, ev⟩ := k1.r.shape
  have h5 : w2.heap[pb]? = some (.cells #[.int .i64 S.C.a, .int .i64 S.C.b, .int .i64 S.C.c, .int .i64 S.C.d, S.lv, .int .i64 S.n] 111 (0, 0)) := (k1.k.block pb (h3.lt pb (.inl rfl)) (fun q => h.ne q)).trans h3.hp
  subst ev
  refine ⟨pa, _, ca, rfl, ⟨by rw [cell_of h5, ← e0]; rfl, fz h5 _⟩, S.wl _ _, k2.1, rfl, rfl, spl_new hs hk hne, k2.2⟩
theorem split_any {w : World} {pb : Nat} {S : PS} (h : Mem w pb S) (hs : Srt S.l) (hn : S.l.length ≤ 60000) (t : Int) :
    Calls Tryz.prog 75 #[.pointer (some ⟨pb, 0, none⟩), .int .i64 t] w fun e w' => ∃ (p : Nat) (S' : PS), e = .returned (.int .i64 p) ∧ SplR w w' pb S S' t p := by
  obtain ⟨k, hk⟩ := isK_ex hs t
  have H30 : Calls Tryz.prog 68 #[.pointer (some ⟨pb, 0, none⟩), .int .i64 t] w fun e w' => e = .returned (.int .i64 k) ∧ Below w.heap.size w w' := by
    refine (stretch_any h hs hn t).mono ?_
    rintro e w' ⟨j, rfl, hj, b⟩
    obtain rfl := hj.out.uniq hk
    exact ⟨rfl, b⟩
  obtain ⟨p0, c0, e0⟩ := h.rw.shape
  cases k with
  | zero =>
    refine (split_new0 w pb t (pv S.C S.l 0) p0 S.l.length c0 (fun w' => ∃ S', SplR w w' pb S S' t 0) (H30.mono ?_)).mono ?_
    · rintro e w' ⟨rfl, b⟩
      refine ⟨rfl, ?_, hi_any h b hs hn t 0 hk (fun i s _ q => absurd q (by omega)) p0 _ c0 e0⟩
      show w'.cell? _ = _
      rw [← e0]
      exact (h.below b).cells.2.2.2.2.1
    · rintro e w' ⟨rfl, S', q⟩
      exact ⟨0, S', rfl, q⟩
  | succ k =>
    have hl : k < S.l.length := hk.le
    have hs' := List.getElem?_eq_getElem hl
    obtain ⟨g, c1, e1⟩ := h.rw.row (by omega)
    have cell : ∀ w', Below w.heap.size w w' → w'.cell? ⟨pb, 4, none⟩ = some (.slice (some ⟨g, 0, none⟩) S.l.length c1) ∧ w'.cell? ⟨g, k * 5, none⟩ = some (.int .i64 S.l[k].at') := fun w' b => by
      have h1 := h.below b
      have hR := h1.rw
      have c4 := h1.cells.2.2.2.2.1
      rw [e1] at hR c4
      exact ⟨c4, (hR.cells hs').1⟩
    by_cases hx : S.l[k].at' = t
    · have := cell w (Below.refl _ _)
      refine (split_old w pb g S.l.length c1 k t _ hl hn hx this.1 this.2 H30).mono ?_
      rintro e w' ⟨rfl, b⟩
      exact ⟨k, S, rfl, h.below b, rfl, rfl, spl_old hs hs' hx, Chg.of_below b⟩
    · have hne : ∀ (i : Nat) (s : Stp), S.l[i]? = some s → i < k + 1 → s.at' ≠ t := fun i s hi hik e => by
        by_cases q : i = k
        · subst q
          rw [hs'] at hi
          cases hi
          exact hx e
        · have h1 := hs.lt (show i < k by omega) hi hs'
          have h2 := hk.lo k _ hs' (by omega)
          omega
      refine (split_new1 w pb k (k + 1) g S.l.length c1 t _ (pv S.C S.l (k + 1)) (by omega) hl hn hx (fun w' => ∃ S', SplR w w' pb S S' t (k + 1)) (H30.mono ?_)).mono ?_
      · rintro e w' ⟨rfl, b⟩
        exact ⟨rfl, cell w' b, hi_any h b hs hn t (k + 1) hk hne _ _ c1 e1⟩
      · rintro e w' ⟨rfl, S', q⟩
        exact ⟨k + 1, S', rfl, q⟩
end Go.Proofs.YtjgibngnjlciaaaGreat

namespace Go.Proofs.YtjgibngnjlciaaaGreat
open Go.RowKit Go.Maps

theorem eqV (v u : V) (w : World) :
    (Op.equalIn 10000 40 (.agg #[.int .i64 v.a, .int .i64 v.b, .int .i64 v.c, .int .i64 v.d]) (.agg #[.int .i64 u.a, .int .i64 u.b, .int .i64 u.c, .int .i64 u.d])).run Tryz.prog w = .ok (decide (v = u)) w := by
  rw [eq4, eq4_V]
/-- the row's cells that join looks at -/
def JC (w : World) (pb g n c k : Nat) (s : V) : Prop := w.cell? ⟨pb, 4, none⟩ = some (.slice (some ⟨g, 0, none⟩) n c) ∧ w.cell? ⟨g, k * 5 + 1, none⟩ = some (.int .i64 s.a) ∧ w.cell? ⟨g, k * 5 + 1 + 1, none⟩ = some (.int .i64 s.b) ∧ w.cell? ⟨g, k * 5 + 1 + 2, none⟩ = some (.int .i64 s.c) ∧ w.cell? ⟨g, k * 5 + 1 + 3, none⟩ = some (.int .i64 s.d)
set_option maxHeartbeats 2000000 in
theorem join_raw (w : World) (pb g n c k : Nat) (s u : V) (bt : Bool) (hk : k < n) (hn : n ≤ 60000) (hq : ∀ w, (Op.equalIn 10000 40 (.agg #[.int .i64 s.a, .int .i64 s.b, .int .i64 s.c, .int .i64 s.d]) (.agg #[.int .i64 u.a, .int .i64 u.b, .int .i64 u.c, .int .i64 u.d])).run Tryz.prog w = .ok bt w) (z : JC w pb g n c k s) (Q : World → Prop)
    (H29 : Hid (Calls Tryz.prog 67 #[.pointer (some ⟨pb, 0, none⟩), .int .i64 k] w.drew fun e w' => e = .returned (.agg #[.int .i64 u.a, .int .i64 u.b, .int .i64 u.c, .int .i64 u.d]) ∧ (w'.cell? ⟨pb, 4, none⟩ = some (.slice (some ⟨g, 0, none⟩) n c) ∧ w'.cell? ⟨g, k * 5 + 1, none⟩ = some (.int .i64 s.a) ∧ w'.cell? ⟨g, k * 5 + 1 + 1, none⟩ = some (.int .i64 s.b) ∧ w'.cell? ⟨g, k * 5 + 1 + 2, none⟩ = some (.int .i64 s.c) ∧ w'.cell? ⟨g, k * 5 + 1 + 3, none⟩ = some (.int .i64 s.d)) ∧
      Hid (if bt = true then Calls Tryz.prog 94 #[.slice (some ⟨g, 0, none⟩) n c, .int .i64 k, .int .i64 ((k : Int) + 1)] w' fun e w2 => ∃ (pa : Option Addr) (n' c' : Nat), e = .returned (.slice pa n' c') ∧ (w2.cell? ⟨pb, 4, none⟩ = some (.slice (some ⟨g, 0, none⟩) n c) ∧ w2.frozen? ⟨pb, 4, none⟩ = false) ∧ Hid (Q (w2.setCell ⟨pb, 4, none⟩ (.slice pa n' c'))) else Q w'))) :
    Calls Tryz.prog 76 #[.pointer (some ⟨pb, 0, none⟩), .int .i64 k] w fun e w' => e = .returned (.tuple #[]) ∧ Q w' := by
  have hk1 : (0 : Int) ≤ (k : Int) := by omega
  have hk2 : (k : Int) < (n : Int) := by omega
  have zz : w.cell? ⟨pb, 4, none⟩ = some (.slice (some ⟨g, 0, none⟩) n c) ∧ w.cell? ⟨g, k * 5 + 1, none⟩ = some (.int .i64 s.a) ∧ w.cell? ⟨g, k * 5 + 1 + 1, none⟩ = some (.int .i64 s.b) ∧ w.cell? ⟨g, k * 5 + 1 + 2, none⟩ = some (.int .i64 s.c) ∧ w.cell? ⟨g, k * 5 + 1 + 3, none⟩ = some (.int .i64 s.d) := z
  clear z
  go_enter Tryz.func76, Tryz.ntmps76
  go_wp2_with fail
  go_region_held3 (fun w' : World => w'.cell? ⟨pb, 4, none⟩ = some (.slice (some ⟨g, 0, none⟩) n c) ∧ w'.cell? ⟨g, k * 5 + 1, none⟩ = some (.int .i64 s.a) ∧ w'.cell? ⟨g, k * 5 + 1 + 1, none⟩ = some (.int .i64 s.b) ∧ w'.cell? ⟨g, k * 5 + 1 + 2, none⟩ = some (.int .i64 s.c) ∧ w'.cell? ⟨g, k * 5 + 1 + 3, none⟩ = some (.int .i64 s.d)) (first | (with_reducible assumption) | (with_reducible exact z3) | (with_reducible exact zz) | (exact zz) | go_keep) (first | (go_at_call 67; refine H29.out.mono ?_; rintro e w3 ⟨rfl, z3, h3⟩))
  all_goals clear H29 zz
  all_goals obtain ⟨z4, -⟩ := z3
  all_goals cases bt
  all_goals first
    | (have HQ : Hid (Q w3) := by have := h3.out; rwa [if_neg (by simp)] at this
       clear h3
       go_wp2_with fail
       go_end0
       exact ⟨rfl, HQ.out⟩)
    | (have H42 : Hid (Calls Tryz.prog 94 #[.slice (some ⟨g, 0, none⟩) n c, .int .i64 k, .int .i64 ((k : Int) + 1)] w3 fun e w2 => ∃ (pa : Option Addr) (n' c' : Nat), e = .returned (.slice pa n' c') ∧ (w2.cell? ⟨pb, 4, none⟩ = some (.slice (some ⟨g, 0, none⟩) n c) ∧ w2.frozen? ⟨pb, 4, none⟩ = false) ∧ Hid (Q (w2.setCell ⟨pb, 4, none⟩ (.slice pa n' c')))) := by have := h3.out; rwa [if_pos rfl] at this
       clear h3
       go_wp2_with (go_at_call 94; refine H42.out.mono ?_; rintro e w4 ⟨pa, n', c', rfl, ⟨t4, tf4⟩, h4⟩)
       go_end0
       exact ⟨rfl, h4.out⟩)
structure JnR (w w' : World) (pb : Nat) (S S' : PS) (k : Nat) : Prop where
  m : Mem w' pb S'
  c : S'.C = S.C
  n : S'.n = S.n
  l : S'.l = jnS S.C S.l k
  g : Chg pb S S' w w'
theorem join_any {w : World} {pb : Nat} {S : PS} (h : Mem w pb S) (hn : S.l.length ≤ 60000) {k : Nat} (hk : k < S.l.length) :
    Calls Tryz.prog 76 #[.pointer (some ⟨pb, 0, none⟩), .int .i64 k] w fun e w' => e = .returned (.tuple #[]) ∧ ∃ S', JnR w w' pb S S' k := by
  obtain ⟨g, c, e0⟩ := h.rw.row (by omega)
  have hs := List.getElem?_eq_getElem hk
  have cell : ∀ w', Below w.heap.size w w' → JC w' pb g S.l.length c k S.l[k].fr := fun w' b => by
    have h1 := h.below b
    have hR := h1.rw
    have c4 := h1.cells.2.2.2.2.1
    rw [e0] at hR c4
    exact ⟨c4, (hR.cells hs).2⟩
  refine join_raw w pb g S.l.length c k S.l[k].fr (pv S.C S.l k) (decide (S.l[k].fr = pv S.C S.l k)) hk hn (eqV _ _) (cell w (Below.refl _ _)) (fun w' => ∃ S', JnR w w' pb S S' k) ?_
  have hB : Below w.heap.size w w.drew := (Below.refl _ w).drew
  refine (free_any (h.below hB) hn (Nat.le_of_lt hk)).mono ?_
  rintro e w' ⟨rfl, b1⟩
  have y1 : Below w.heap.size w w' := hB.trans b1
  have h1 := h.below y1
  refine ⟨rfl, cell w' y1, ?_⟩
  show if _ then _ else _
  by_cases he : S.l[k].fr = pv S.C S.l k
  · rw [if_pos (decide_eq_true he)]
    have hd := del_any w' S.lv k S.l h1.rw hk
    rw [e0] at hd
    refine hd.mono ?_
    rintro e w2 ⟨v', rfl, k1⟩
    rw [← e0] at k1
    have k2 := Chg.ins h y1 k1
    obtain ⟨pa, ca, ev⟩ := k1.r.shape
    have h5 : w2.heap[pb]? = some (.cells #[.int .i64 S.C.a, .int .i64 S.C.b, .int .i64 S.C.c, .int .i64 S.C.d, S.lv, .int .i64 S.n] 111 (0, 0)) := (k1.k.block pb (h1.lt pb (.inl rfl)) (fun q => h.ne q)).trans h1.hp
    subst ev
    exact ⟨pa, _, ca, rfl, ⟨by rw [cell_of h5, ← e0]; rfl, fz h5 _⟩, S.wl _ _, k2.1, rfl, rfl, (jn_yes hs he).symm, k2.2⟩
  · rw [if_neg (by simpa using he)]
    exact ⟨S, h1, rfl, rfl, (jn_no hs he).symm, Chg.of_below y1⟩
theorem sub_V (s v : V) (w : World) (hs : s.ok = true) (hv : v.ok = true) (hl : v.le s) :
    Calls Tryz.prog 26 #[.agg #[.int .i64 s.a, .int .i64 s.b, .int .i64 s.c, .int .i64 s.d], .agg #[.int .i64 v.a, .int .i64 v.b, .int .i64 v.c, .int .i64 v.d]] w fun r w' => r = .returned (.tuple #[.agg #[.int .i64 (s.sub v).a, .int .i64 (s.sub v).b, .int .i64 (s.sub v).c, .int .i64 (s.sub v).d], .int .i64 0]) ∧ Below w.heap.size w w' := by
  have o1 := okV hs
  have o2 := okV hv
  have := sub_at s.a s.b s.c s.d v.a v.b v.c v.d (s.sub v).a (s.sub v).b (s.sub v).c (s.sub v).d w (by simp only [allOk, List.all_cons, List.all_nil, Bool.and_true]; rw [show V.ok ⟨s.a, s.b, s.c, s.d⟩ = true from hs, show V.ok ⟨v.a, v.b, v.c, v.d⟩ = true from hv]; rfl) (wrap_ok (by omega) (by omega)) (wrap_ok (by omega) (by omega)) (wrap_ok (by omega) (by omega)) (wrap_ok (by omega) (by omega))
  rw [ft_le, if_pos (decide_eq_true hl)] at this
  exact this
end Go.Proofs.YtjgibngnjlciaaaGreat
