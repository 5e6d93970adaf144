/-
  New, Steps, Least.
-/
import Derived.Test.YtjgibngnjlciaaaGreatPPb
import Derived.Test.YtjgibngnjlciaaaGreatPMc
namespace Go.Proofs.YtjgibngnjlciaaaGreat
open Go.RowKit Go.Maps

set_option maxHeartbeats 400000 in
theorem new_bad (w : World) (v : V) (hv : v.ok = false) : Calls Tryz.prog 42 #[.agg #[.int .i64 v.a, .int .i64 v.b, .int .i64 v.c, .int .i64 v.d]] w fun e w' => e = .returned (.tuple #[.pointer none, .int .i64 4]) ∧ Below w.heap.size w w' := by
  have H : Hid (∀ w, Calls Tryz.prog 61 #[.agg #[.int .i64 v.a, .int .i64 v.b, .int .i64 v.c, .int .i64 v.d]] w fun e w' => e = .returned (.bool false) ∧ Below w.heap.size w w') := fun w => by have := formed_any v.a v.b v.c v.d w; rwa [show fm v.a v.b v.c v.d = false from hv] at this
  go_enter Tryz.func42, Tryz.ntmps42
  go_wp2_with (go_at_call 61; refine (H.out _).mono ?_)
  rintro e w1 ⟨rfl, b1⟩
  go_wp2_with fail
  go_ret2
  exact ⟨rfl, Below.trans (by go_grown) (b1.mono (by simp))⟩
set_option maxHeartbeats 400000 in
theorem new_raw (w : World) (v : V) (hv : v.ok = true) : Calls Tryz.prog 42 #[.agg #[.int .i64 v.a, .int .i64 v.b, .int .i64 v.c, .int .i64 v.d]] w fun e w' => ∃ w1, e = .returned (.tuple #[.pointer (some ⟨w1.heap.size, 0, none⟩), .int .i64 0]) ∧ Below w.heap.size w w1 ∧ w' = w1.alloc (.cells #[.int .i64 v.a, .int .i64 v.b, .int .i64 v.c, .int .i64 v.d, .slice none 0 0, .int .i64 0] 111 (0, 0)) := by
  have H : Hid (∀ w, Calls Tryz.prog 61 #[.agg #[.int .i64 v.a, .int .i64 v.b, .int .i64 v.c, .int .i64 v.d]] w fun e w' => e = .returned (.bool true) ∧ Below w.heap.size w w') := fun w => by have := formed_any v.a v.b v.c v.d w; rwa [show fm v.a v.b v.c v.d = true from hv] at this
  go_enter Tryz.func42, Tryz.ntmps42
  go_wp2_with (go_at_call 61; refine (H.out _).mono ?_)
  rintro e w1 ⟨rfl, b1⟩
  have z1 := at_below b1 (Nat.le_refl _) new0
  have y1 : Hid (Below w.heap.size w w1) := Below.trans (by go_grown) (b1.mono (by simp))
  obtain ⟨r0, r1, r2, r3, rf0, rf1, rf2, rf3, rs, rn⟩ := cells4 z1
  go_wp2_with fail
  go_ret2
  exact ⟨w1, rfl, y1.out, rfl⟩
theorem mem_new {w : World} {v : V} : Mem (w.alloc (.cells #[.int .i64 v.a, .int .i64 v.b, .int .i64 v.c, .int .i64 v.d, .slice none 0 0, .int .i64 0] 111 (0, 0))) w.heap.size ⟨v, .slice none 0 0, [], 0⟩ := ⟨new0, Row.nil _⟩
theorem steps_nil (w : World) : Calls Tryz.prog 44 #[.pointer none] w fun e w' => e = .returned (.slice none 0 0) ∧ w' = w := by
  go_enter Tryz.func44, Tryz.ntmps44
  go_wp2_with fail
  go_ret
  exact ⟨rfl, rfl⟩
set_option maxHeartbeats 400000 in
theorem steps_any {w : World} {pb : Nat} {S : PS} (h : Mem w pb S) (hn : S.l.length ≤ 60000) :
    Calls Tryz.prog 44 #[.pointer (some ⟨pb, 0, none⟩)] w fun e w' => ∃ v, e = .returned v ∧ Row w' v S.l ∧ Below w.heap.size w w' ∧ (∀ j, v.ownBlock = some j → w.heap.size ≤ j) := by
  have H : Hid (Calls Tryz.prog 64 #[S.lv] w fun e w' => ∃ v, e = .returned v ∧ Row w' v S.l ∧ Below w.heap.size w w' ∧ (∀ j, v.ownBlock = some j → w.heap.size ≤ j)) := pclone_any w S.lv S.l h.rw hn
  have c4 := h.cells.2.2.2.2.1
  clear h
  generalize S.lv = lv at *
  go_enter Tryz.func44, Tryz.ntmps44
  go_wp2_with (go_at_call 64; refine H.out.mono ?_)
  rintro e w1 ⟨v, rfl, h1, h2, h3⟩
  go_wp2_with fail
  go_ret
  exact ⟨v, rfl, h1, h2, h3⟩
set_option maxHeartbeats 400000 in
theorem least_bad (w : World) (p : Value) (a b : Int) (hs : spn a b = false) : Calls Tryz.prog 62 #[p, .int .i64 a, .int .i64 b] w fun e w' => e = .returned (.tuple #[.agg #[.int .i64 0, .int .i64 0, .int .i64 0, .int .i64 0], .int .i64 2]) ∧ Below w.heap.size w w' := by
  have H : Hid (∀ w, Calls Tryz.prog 73 #[.int .i64 a, .int .i64 b] w fun e w' => e = .returned (.bool false) ∧ w' = w) := fun w => by have := isSpan_any w a b; rwa [hs] at this
  go_enter Tryz.func62, Tryz.ntmps62
  go_wp2_with (go_at_call 73; refine (H.out _).mono ?_; rintro e w1 ⟨rfl, rfl⟩)
  refine bodyPost_ret (v := .tuple #[.agg #[.int .i64 0, .int .i64 0, .int .i64 0, .int .i64 0], .int .i64 2]) (by rw [results_cell_tmp rfl]; go_simp) rfl ⟨rfl, ?_⟩
  go_grown
set_option maxHeartbeats 400000 in
theorem least_nil (w : World) (a b : Int) (hs : spn a b = true) : Calls Tryz.prog 62 #[.pointer none, .int .i64 a, .int .i64 b] w fun e w' => e = .returned (.tuple #[.agg #[.int .i64 0, .int .i64 0, .int .i64 0, .int .i64 0], .int .i64 0]) ∧ Below w.heap.size w w' := by
  have H : Hid (∀ w, Calls Tryz.prog 73 #[.int .i64 a, .int .i64 b] w fun e w' => e = .returned (.bool true) ∧ w' = w) := fun w => by have := isSpan_any w a b; rwa [hs] at this
  go_enter Tryz.func62, Tryz.ntmps62
  go_wp2_with (go_at_call 73; refine (H.out _).mono ?_; rintro e w1 ⟨rfl, rfl⟩)
  refine bodyPost_ret (v := .tuple #[.agg #[.int .i64 0, .int .i64 0, .int .i64 0, .int .i64 0], .int .i64 0]) (by rw [results_cell_tmp rfl]; go_simp) rfl ⟨rfl, ?_⟩
  go_grown
/-- while the least is looked for -/
structure LQ (w wr : World) (S : PS) (a b : Int) (rb mb p : Nat) (m : V) : Prop where
  q : Lsq S.C S.l a b p m
  w : Below w.heap.size w wr
  r : wr.heap[rb]? = some (.cells #[.int .i64 0, .int .i64 0, .int .i64 0, .int .i64 0] 40 (0, 0))
  m : wr.heap[mb]? = some (.cells #[.int .i64 m.a, .int .i64 m.b, .int .i64 m.c, .int .i64 m.d] 40 (0, 0))
theorem below_set4 {B : Nat} {w W : World} (h : Below B w W) {g : Nat} (hg : B ≤ g) (v0 v1 v2 v3 : Value) : Below B w ((((W.setCell ⟨g, 0, none⟩ v0).setCell ⟨g, 1, none⟩ v1).setCell ⟨g, 2, none⟩ v2).setCell ⟨g, 3, none⟩ v3) :=
  (((h.setCell hg _).setCell hg _).setCell hg _).setCell hg _
theorem at_other4 {W : World} {g g' : Nat} {v0 v1 v2 v3 : Value} {o : Obj} (h : W.heap[g]? = some o) (hne : g ≠ g') : ((((W.setCell ⟨g', 0, none⟩ v0).setCell ⟨g', 1, none⟩ v1).setCell ⟨g', 2, none⟩ v2).setCell ⟨g', 3, none⟩ v3).heap[g]? = some o :=
  at_other (at_other (at_other (at_other h hne) hne) hne) hne
set_option maxHeartbeats 2000000 in
theorem least_good {w : World} {pb : Nat} {S : PS} (h : Mem w pb S) (hs : Srt S.l) (hn : S.l.length ≤ 60000) (a b : Int) (hsp : spn a b = true) :
    Calls Tryz.prog 62 #[.pointer (some ⟨pb, 0, none⟩), .int .i64 a, .int .i64 b] w fun e w' => (∃ m : V, e = .returned (.tuple #[.agg #[.int .i64 m.a, .int .i64 m.b, .int .i64 m.c, .int .i64 m.d], .int .i64 0]) ∧ Lst (fa S.C S.l) a b m) ∧ Below w.heap.size w w' := by
  have H32 : Hid (∀ w, Calls Tryz.prog 73 #[.int .i64 a, .int .i64 b] w fun e w' => e = .returned (.bool true) ∧ w' = w) := fun w => by have := isSpan_any w a b; rwa [hsp] at this
  have H30 : Hid (∀ W, Below w.heap.size w W → Calls Tryz.prog 68 #[.pointer (some ⟨pb, 0, none⟩), .int .i64 a] W fun e w' => ∃ k : Nat, e = .returned (.int .i64 k) ∧ Hid (IsK S.l a k) ∧ Below W.heap.size W w') := fun W b => stretch_any (h.below b) hs hn a
  have H29 : Hid (∀ (k : Nat) W, IsK S.l a k → Below w.heap.size w W → Calls Tryz.prog 67 #[.pointer (some ⟨pb, 0, none⟩), .int .i64 k] W fun e w' => e = .returned (.agg #[.int .i64 (pv S.C S.l k).a, .int .i64 (pv S.C S.l k).b, .int .i64 (pv S.C S.l k).c, .int .i64 (pv S.C S.l k).d]) ∧ Below W.heap.size W w') := fun k W hk b => free_any (h.below b) hn hk.le
  have HM : Hid (Mem w pb S) := h
  have HS : Hid (Srt S.l) := hs
  have hab : Hid (a < b) := by unfold spn at hsp; simp at hsp; show a < b; omega
  have e1 : ¬ pb = w.heap.size := by have := h.lt pb (.inl rfl); omega
  clear h hs hsp
  go_enter Tryz.func62, Tryz.ntmps62
  go_wp2_with (first | (go_at_call 73; refine (H32.out _).mono ?_; rintro e w1 ⟨rfl, rfl⟩) | (go_at_call 68; refine (H30.out _ (by go_grown)).mono ?_))
  rintro e w1 ⟨k, rfl, hk, b1⟩
  have z1 := at_below b1 (Nat.le_refl _) new0
  have y1 : Hid (Below w.heap.size w w1) := Below.trans (by go_grown) (b1.mono (by simp))
  clear H30 H32 b1
  go_wp2_with (go_at_call 67; refine (H29.out k _ hk.out y1.out).mono ?_)
  rintro e w2 ⟨rfl, b2⟩
  have z2 := at_below b2 (Nat.le_refl _) z1
  have y2 : Hid (Below w.heap.size w w2) := y1.out.trans (b2.mono y1.out.size)
  clear b2 y1 z1 H29
  have HQ : Hid (Lsq S.C S.l a b k (pv S.C S.l k)) := lsq_start hk.out hab.out
  generalize pv S.C S.l k = m0 at *
  go_wp2_with fail
  have HL : Hid (LQ w (w2.alloc (.cells #[.int .i64 m0.a, .int .i64 m0.b, .int .i64 m0.c, .int .i64 m0.d] 40)) S a b w.heap.size w2.heap.size k m0) := ⟨HQ.out, y2.out.alloc y2.out.size _, at_alloc z2, new0⟩
  have hne : Hid (w.heap.size ≠ w2.heap.size ∧ w.heap.size ≤ w2.heap.size) := by have := (Array.getElem?_eq_some_iff.1 z2).1; show _ ∧ _; omega
  generalize w2.alloc (.cells #[.int .i64 m0.a, .int .i64 m0.b, .int .i64 m0.c, .int .i64 m0.d] 40) = W0 at *
  generalize w2.heap.size = mb at *
  clear z2 HQ y2 hk
  go_loopw [8] (fun t8 wr => ∃ (p : Nat) (m : V), t8 = .int .i64 p ∧ Hid (LQ w wr S a b w.heap.size mb p m)) (fun t8 _ => S.l.length - (intOf t8).toNat)
  case atStart => exact ⟨k, m0, rfl, HL.out⟩
  case round =>
    clear HL
    obtain ⟨p, m, rfl, HL⟩ := hrel
    have hpl := HL.out.q.pl
    obtain ⟨q0, q1, q2, q3, qf0, qf1, qf2, qf3, qs, qn⟩ := cells4 HL.out.m
    have hM := HM.out.below HL.out.w
    have H33 : Hid (∀ (u : V) W, W.heap = wr.heap → W.os = wr.os → W.tape = wr.tape → W.output = wr.output → Calls Tryz.prog 74 #[.agg #[.int .i64 m.a, .int .i64 m.b, .int .i64 m.c, .int .i64 m.d], .agg #[.int .i64 u.a, .int .i64 u.b, .int .i64 u.c, .int .i64 u.d]] W fun e w' => e = .returned (.agg #[.int .i64 (m.mn u).a, .int .i64 (m.mn u).b, .int .i64 (m.mn u).c, .int .i64 (m.mn u).d]) ∧ (w'.cell? ⟨mb, 0, none⟩ = some (.int .i64 m.a) ∧ w'.cell? ⟨mb, 1, none⟩ = some (.int .i64 m.b) ∧ w'.cell? ⟨mb, 2, none⟩ = some (.int .i64 m.c) ∧ w'.cell? ⟨mb, 3, none⟩ = some (.int .i64 m.d) ∧ w'.frozen? ⟨mb, 0, none⟩ = false ∧ w'.frozen? ⟨mb, 1, none⟩ = false ∧ w'.frozen? ⟨mb, 2, none⟩ = false ∧ w'.frozen? ⟨mb, 3, none⟩ = false) ∧ Hid (LQ w w' S a b w.heap.size mb p m)) := fun u W e0 e1 e2 e3 => by
      refine (lesser_any m u W).mono ?_
      rintro e w' ⟨rfl, b1⟩
      have h1 : W.heap[mb]? = some (.cells #[.int .i64 m.a, .int .i64 m.b, .int .i64 m.c, .int .i64 m.d] 40 (0, 0)) := by rw [e0]; exact HL.out.m
      have h2 : W.heap[w.heap.size]? = some (.cells #[.int .i64 0, .int .i64 0, .int .i64 0, .int .i64 0] 40 (0, 0)) := by rw [e0]; exact HL.out.r
      have h3 := at_below b1 (Nat.le_refl _) h1
      obtain ⟨q0, q1, q2, q3, qf0, qf1, qf2, qf3, qs, qn⟩ := cells4 h3
      refine ⟨rfl, ⟨q0, q1, q2, q3, qf0, qf1, qf2, qf3⟩, HL.out.q, ?_, at_below b1 (Nat.le_refl _) h2, h3⟩
      have hb := HL.out.w
      exact ⟨b1.os.trans (e1.trans hb.os), b1.tape.trans (e2.trans hb.tape), b1.output.trans (e3.trans hb.output), Nat.le_trans (Nat.le_trans hb.size (by rw [e0]; exact Nat.le_refl _)) b1.size, fun k hk => (b1.block k (by rw [e0]; exact Nat.lt_of_lt_of_le hk hb.size)).trans (by rw [e0]; exact hb.block k hk)⟩
    by_cases hp : p = S.l.length
    · obtain ⟨pp, c, elv⟩ := hM.rw.shape
      have c4 := hM.cells.2.2.2.2.1
      rw [elv] at c4
      obtain ⟨r0, r1, r2, r3, rf0, rf1, rf2, rf3, rs, rn⟩ := cells4 HL.out.r
      have hpl' : ¬ (p : Int) < (S.l.length : Int) := by omega
      have HD : Hid (Lst (fa S.C S.l) a b m) := HL.out.q.done HS.out fun s hs => by have := (List.getElem?_eq_some_iff.1 hs).1; omega
      clear hM elv
      go_wp2_with fail
      have r := at_set4 (v0 := .int .i64 m.a) (v1 := .int .i64 m.b) (v2 := .int .i64 m.c) (v3 := .int .i64 m.d) HL.out.r
      obtain ⟨x0, x1, x2, x3, -⟩ := cells4 r
      refine bodyPost_ret (v := .tuple #[.agg #[.int .i64 m.a, .int .i64 m.b, .int .i64 m.c, .int .i64 m.d], .int .i64 0]) (by rw [results_cell_tmp rfl]; simp [go_sem, x0, x1, x2, x3]) rfl ⟨⟨m, rfl, HD.out⟩, ?_⟩
      exact below_set4 HL.out.w (Nat.le_refl _) _ _ _ _
    · have hlt : p < S.l.length := by omega
      have hlt' : (p : Int) < (S.l.length : Int) := by omega
      obtain ⟨g, c, elv⟩ := hM.rw.row (by omega)
      have c4 := hM.cells.2.2.2.2.1
      have hR := hM.rw
      rw [elv] at c4 hR
      obtain ⟨s, hs⟩ : ∃ s, S.l[p]? = some s := ⟨_, List.getElem?_eq_getElem hlt⟩
      obtain ⟨s0, s1, s2, s3, s4⟩ := hR.cells hs
      clear hM elv hR
      generalize S.l.length = n at *
      by_cases hb : s.at' < b
      · have HN : Hid (Lsq S.C S.l a b (p + 1) (m.mn s.fr)) := HL.out.q.step HS.out hs hb
        have hb' : decide (s.at' < b) = true := decide_eq_true hb
        go_wp2_with fail
        go_region_with (go_at_call 74; refine (H33.out s.fr wr.drew rfl rfl rfl rfl).mono ?_; rintro e w3 ⟨rfl, ⟨t0, t1, t2, t3, tf0, tf1, tf2, tf3⟩, HX⟩)
        all_goals go_wp2_with fail
        all_goals
          refine ⟨⟨p + 1, m.mn s.fr, by simp, HN.out, below_set4 HX.out.w hne.out.2 _ _ _ _, at_other4 HX.out.r hne.out.1, at_set4 HX.out.m⟩, ?_⟩
          simp only [intOf]; omega
      · have HD : Hid (Lst (fa S.C S.l) a b m) := HL.out.q.done HS.out fun s' hs' => by rw [hs] at hs'; cases hs'; omega
        obtain ⟨r0, r1, r2, r3, rf0, rf1, rf2, rf3, rs, rn⟩ := cells4 HL.out.r
        have hb' : decide (s.at' < b) = false := decide_eq_false hb
        generalize s.at' = x at *
        clear s1 s2 s3 s4
        go_wp2_with fail
        have r := at_set4 (v0 := .int .i64 m.a) (v1 := .int .i64 m.b) (v2 := .int .i64 m.c) (v3 := .int .i64 m.d) HL.out.r
        obtain ⟨x0, x1, x2, x3, -⟩ := cells4 r
        refine bodyPost_ret (v := .tuple #[.agg #[.int .i64 m.a, .int .i64 m.b, .int .i64 m.c, .int .i64 m.d], .int .i64 0]) (by rw [results_cell_tmp rfl]; simp [go_sem, x0, x1, x2, x3]) rfl ⟨⟨m, rfl, HD.out⟩, ?_⟩
        exact below_set4 HL.out.w (Nat.le_refl _) _ _ _ _
end Go.Proofs.YtjgibngnjlciaaaGreat
