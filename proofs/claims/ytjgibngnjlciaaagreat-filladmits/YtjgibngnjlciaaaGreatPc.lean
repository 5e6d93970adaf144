/-
  The tasks' turns: the closure, the stable sort, turns.
-/
import Derived.Test.YtjgibngnjlciaaaGreatOr
import Derived.Test.YtjgibngnjlciaaaGreatPb
import Derived.Lib.QuietBelow
import Derived.BigQuiet
namespace Go.Proofs.YtjgibngnjlciaaaGreat
open Go.RowKit Go.Maps Go.Sort

/-- a block of things of one cell -/
def LB {α : Type} (t : TypeId) (f : α → Value) (w : World) (g : Nat) (L : List α) : Prop := w.heap[g]? = some (.cells ⟨L.map f⟩ t (0, 0))
section
variable {α : Type} {t : TypeId} {f : α → Value} {w w1 : World} {g : Nat} {L : List α}
theorem LB.lt (h : LB t f w g L) : g < w.heap.size := (Array.getElem?_eq_some_iff.1 h).1
theorem LB.cell (h : LB t f w g L) {i : Nat} {x : α} (hi : L[i]? = some x) : w.cell? ⟨g, i, none⟩ = some (f x) := by
  rw [cell_of h]
  simp [hi]
theorem LB.fz (h : LB t f w g L) (i : Nat) : w.frozen? ⟨g, i, none⟩ = false := Go.Proofs.YtjgibngnjlciaaaGreat.fz h i
theorem LB.at (h : LB t f w g L) (e : w1.heap[g]? = w.heap[g]?) : LB t f w1 g L := e.trans h
theorem LB.below (h : LB t f w g L) (b : Below w.heap.size w w1) : LB t f w1 g L := h.at (b.block g h.lt)
theorem LB.set (h : LB t f w g L) (i : Nat) (x : α) : LB t f (w.setCell ⟨g, i, none⟩ (f x)) g (L.set i x) := by
  unfold LB
  rw [setB h]
  simp [List.map_set]
end
theorem made_list (z : Value) (n : Nat) : madeCells #[z] n = Array.replicate n z := by
  apply Array.ext
  · simp [madeCells]
  · intro i h1 h2
    simp [madeCells, Nat.mod_one]
def nI (x : Nat) : Value := .int .i64 (x : Int)
/-- the tasks, in a box -/
def CB (w : World) (bx : Nat) (T : List V) : Prop := ∃ q c, w.cell? ⟨bx, 0, none⟩ = some (.slice q T.length c) ∧ TA w q T
theorem CB.below {w w1 : World} {bx : Nat} {T : List V} (h : CB w bx T) (b : Below w.heap.size w w1) : CB w1 bx T := by
  obtain ⟨q, c, h1, h2⟩ := h
  exact ⟨q, c, cell_below h1 b, h2.below b⟩
theorem grown {W : World} {f : FuncId} {args : Array Value} {v : Value} (H : Hid (∀ w, Calls Tryz.prog f args w fun e w' => e = .returned v ∧ Below w.heap.size w w')) :
    Hid (∀ d os, Calls Tryz.prog f args (grow (redrawn W d) os) fun e w'' => e = .returned v ∧ ∃ p : Regrown, w'' = grow (redrawn W p.d) p.os) := fun _ _ => Calls.regrown_of (H.out _)
set_option maxHeartbeats 2000000 in
set_option maxRecDepth 100000 in
theorem turns_cl (w : World) (bx : Nat) (T : List V) (x y : Nat) (h : CB w bx T) (hx : x < T.length) (hy : y < T.length) :
    Calls Tryz.prog 50 #[.int .i64 (x : Int), .int .i64 (y : Int), .pointer (some ⟨bx, 0, none⟩)] w fun e w' => e = .returned (.int .i64 (cmV (tg T y) (tg T x))) ∧ Below w.heap.size w w' := by
  obtain ⟨q, c, h1, h2⟩ := h
  obtain ⟨g, o, rfl, x0, x1, x2, x3⟩ := h2.at (tg_lt hx)
  obtain ⟨g', o', e', y0, y1, y2, y3⟩ := h2.at (tg_lt hy)
  cases e'
  have H39 : Hid (∀ w, Calls Tryz.prog 51 #[.agg #[.int .i64 (tg T y).a, .int .i64 (tg T y).b, .int .i64 (tg T y).c, .int .i64 (tg T y).d], .agg #[.int .i64 (tg T x).a, .int .i64 (tg T x).b, .int .i64 (tg T x).c, .int .i64 (tg T x).d]] w fun r w' => r = .returned (.int .i64 (cmV (tg T y) (tg T x))) ∧ Below w.heap.size w w') := fun w => cmp_any _ _ _ _ _ _ _ _ w
  obtain ⟨n, hn⟩ : ∃ n, n = T.length := ⟨_, rfl⟩
  rw [← hn] at h1 hx hy
  clear hn h2
  generalize tg T x = u at *
  generalize tg T y = v at *
  obtain ⟨ua, ub, uc, ud⟩ := u
  obtain ⟨va, vb, vc, vd⟩ := v
  simp only [] at x0 x1 x2 x3 y0 y1 y2 y3 H39
  generalize cmV ⟨va, vb, vc, vd⟩ ⟨ua, ub, uc, ud⟩ = r at *
  have e1 : (x : Int) < (n : Int) := by omega
  have e2 : (y : Int) < (n : Int) := by omega
  go_enter Tryz.func50, Tryz.ntmps50
  go_upto_region 1 with fail
  have G39 := grown (W := w) H39
  have m0 := cell_regrown x0
  have m1 := cell_regrown x1
  have m2 := cell_regrown x2
  have m3 := cell_regrown x3
  have n0 := cell_regrown y0
  have n1 := cell_regrown y1
  have n2 := cell_regrown y2
  have n3 := cell_regrown y3
  have k1 := cell_regrown h1
  refine wp_region_quiet_below (by kernel_rfl) (by kernel_rfl) ?_
  repeat (first | go_big_quiet_step ((go_at_call 51; exact G39.out _ _)) | quiet_step ((go_at_call 51; exact G39.out _ _)))
  refine wpQuiet_nil ?_
  intro _ hw'
  obtain ⟨⟨dq, osq⟩, hw''⟩ := hw'
  subst hw''
  go_wp2_with fail
  go_ret
  exact ⟨rfl, below_regrown w dq osq⟩
/-- while numbers are sorted -/
def Sq (W0 wr : World) (g : Nat) (L : List Nat) : Prop := LB 3 nI wr g L ∧ Below W0.heap.size W0 wr
set_option maxHeartbeats 4000000 in
set_option maxRecDepth 100000 in
theorem ins_sort (W0 w : World) (g bx n c : Nat) (T : List V) (hC : CB W0 bx T) (hb : Sq W0 w g (List.range n)) (hg : W0.heap.size ≤ g) (hn : T.length = n) (n1 : n ≤ 1000000) (n0 : 1 ≤ n) :
    Calls Tryz.prog 90 #[.slice (some ⟨g, 0, none⟩) n c, .int .i64 0, .int .i64 (n : Int), .func (.func 50) #[] #[.pointer (some ⟨bx, 0, none⟩)]] w fun e w' => e = .returned (.tuple #[]) ∧ Hid (∃ L, Ord T L ∧ Sq W0 w' g L) := by
  have HC : Hid (CB W0 bx T ∧ T.length = n ∧ W0.heap.size ≤ g) := ⟨hC, hn, hg⟩
  have HB : Hid (Sq W0 w g (List.range n)) := hb
  clear hC hb hg hn
  go_enter Tryz.func90, Tryz.ntmps90
  go_wp2_with fail
  go_loopw [8] (fun x wr => ∃ i : Nat, x = .int .i64 i ∧ 1 ≤ i ∧ i ≤ n ∧ Hid (∃ A, A.Perm (List.range i) ∧ A.Pairwise (bef T) ∧ Sq W0 wr g (A ++ List.range' i (n - i)))) (fun x _ => n - (intOf x).toNat)
  case atStart =>
    refine ⟨1, by simp, Nat.le_refl _, n0, [0], List.Perm.refl _, List.pairwise_singleton _ _, ?_⟩
    have := HB.out
    rw [List.range_eq_range', show n = (n - 1) + 1 by omega, List.range'_succ] at this
    exact this
  case round =>
    clear HB
    obtain ⟨i, rfl, i1, hi, HB⟩ := hrel
    by_cases h0 : i = n
    · subst h0
      go_wp2_with fail
      go_end0
      obtain ⟨A, a1, a2, a3⟩ := HB.out
      refine ⟨rfl, A, ⟨by rw [HC.out.2.1]; exact a1, a2⟩, ?_⟩
      rw [Nat.sub_self] at a3
      simpa using a3
    · have hlt : i < n := by omega
      have hlt' : (i : Int) < (n : Int) := by omega
      have hd : decide ((i : Int) < (n : Int)) = true := decide_eq_true hlt'
      obtain ⟨A, a1, a2, a3⟩ := HB.out
      have HA : Hid (A.Perm (List.range i) ∧ A.Pairwise (bef T) ∧ A.length = i) := ⟨a1, a2, by rw [a1.length_eq, List.length_range]⟩
      have H3 : Hid (Sq W0 wr g (A.take i ++ i :: A.drop i ++ List.range' (i + 1) (n - i - 1))) := by
        rw [show n - i = (n - i - 1) + 1 by omega, List.range'_succ] at a3
        rw [List.take_of_length_le (by rw [HA.out.2.2]; exact Nat.le_refl _), List.drop_of_length_le (by rw [HA.out.2.2]; exact Nat.le_refl _), List.append_assoc]
        exact a3
      clear HB a1 a2 a3
      go_wp2_with fail
      go_loopw [9] (fun x wr => ∃ j : Nat, x = .int .i64 j ∧ j ≤ i ∧ Hid ((∀ y ∈ A.drop j, bef T i y) ∧ Sq W0 wr g (A.take j ++ i :: A.drop j ++ List.range' (i + 1) (n - i - 1)))) (fun x _ => (intOf x).toNat)
      case atStart => exact ⟨i, rfl, Nat.le_refl _, (fun y hy => by rw [List.drop_of_length_le (by rw [HA.out.2.2]; exact Nat.le_refl _)] at hy; cases hy), H3.out⟩
      case round =>
        clear H3
        obtain ⟨j, rfl, hj, HI⟩ := hrel
        rcases Nat.eq_zero_or_pos j with hj0 | hj0
        · have j1 : decide ((0 : Int) < (j : Int)) = false := decide_eq_false (by omega)
          have j2 : decide (0 < j) = false := decide_eq_false (by omega)
          have j3 : ¬ (0 : Int) < (j : Int) := by omega
          have j4 : ¬ 0 < j := by omega
          have HF : Hid (∃ A, A.Perm (List.range (i + 1)) ∧ A.Pairwise (bef T) ∧ Sq W0 wr g (A ++ List.range' (i + 1) (n - (i + 1)))) := by
            obtain ⟨f1, f2⟩ := ins_fin HA.out.2.1 HA.out.1 HI.out.1 (.inl hj0)
            refine ⟨_, f2, f1, ?_⟩
            rw [show n - (i + 1) = n - i - 1 by omega]
            exact HI.out.2
          clear hj0 HI
          go_upto_region 4 with fail
          go_quiet (fail)
          clear j1 j2 j3 j4
          go_wp2_with fail
          refine ⟨⟨i + 1, by simp, by omega, by omega, ?_⟩, by simp only [intOf]; omega⟩
          obtain ⟨B, b1, b2, b3, b4⟩ := HF.out
          exact ⟨B, b1, b2, b3, below_drewN b4 _⟩
        · obtain ⟨t, ht⟩ : ∃ t, j = t + 1 := ⟨j - 1, by omega⟩
          obtain ⟨z, hz⟩ : ∃ z, A[t]? = some z := ⟨_, List.getElem?_eq_getElem (by have := HA.out.2.2; omega)⟩
          have hzi : z < i := List.mem_range.1 (HA.out.1.mem_iff.1 (List.mem_of_getElem? hz))
          have hzm : (A.take j ++ i :: A.drop j ++ List.range' (i + 1) (n - i - 1))[t]? = some z := by
            rw [List.append_assoc, List.getElem?_append_left (by rw [List.length_take]; have := HA.out.2.2; omega), List.getElem?_take, if_pos (by omega)]
            exact hz
          have him : (A.take j ++ i :: A.drop j ++ List.range' (i + 1) (n - i - 1))[j]? = some i := by
            have hl : (A.take j).length = j := by rw [List.length_take]; have := HA.out.2.2; omega
            rw [List.append_assoc, List.getElem?_append_right (by omega), hl, Nat.sub_self]
            rfl
          have c1 : wr.cell? ⟨g, t, none⟩ = some (.int .i64 (z : Int)) := HI.out.2.1.cell hzm
          have c2 : wr.cell? ⟨g, j, none⟩ = some (.int .i64 (i : Int)) := HI.out.2.1.cell him
          have G38 : Hid (∀ d os, Calls Tryz.prog 50 #[.int .i64 (i : Int), .int .i64 (z : Int), .pointer (some ⟨bx, 0, none⟩)] (grow (redrawn wr d) os) fun e w'' => e = .returned (.int .i64 (cmV (tg T z) (tg T i))) ∧ ∃ p : Regrown, w'' = grow (redrawn wr p.d) p.os) := fun d os => Calls.regrown_of (turns_cl _ bx T i z (((HC.out.1).below HI.out.2.2).below (below_regrown wr d os)) (by have := HC.out.2.1; omega) (by have := HC.out.2.1; omega))
          have hN : Hid (cmV (tg T z) (tg T i) < 0 ↔ V.gt (tg T i) (tg T z)) := cm_neg _ _
          have HZ : Hid (A[t]? = some z ∧ j = t + 1) := ⟨hz, ht⟩
          have g1 : (0 : Int) < (j : Int) := by omega
          have g2 : decide ((0 : Int) < (j : Int)) = true := decide_eq_true g1
          have g2' : decide (0 < j) = true := decide_eq_true hj0
          have g3' : (j : Int) - 1 = (t : Int) := by omega
          have g4 : IntKind.i64.wrap (t : Int) = (t : Int) := by simp [IntKind.wrap, IntKind.bits, IntKind.signed]; omega
          have g5 : (t : Int) < (n : Int) := by omega
          have g6 : (j : Int) < (n : Int) := by omega
          clear hz hzm him ht hzi
          obtain ⟨r, hr⟩ : ∃ r, r = cmV (tg T z) (tg T i) := ⟨_, rfl⟩
          rw [← hr] at G38 hN
          clear hr
          go_upto_region 4 with fail
          have m1 := cell_regrown c1
          have m2 := cell_regrown c2
          by_cases hr : r < 0
          · have r2 : decide (r < 0) = true := decide_eq_true hr
            have HF : Hid (V.gt (tg T i) (tg T z)) := hN.out.1 hr
            refine wp_region_quiet_below (by kernel_rfl) (by kernel_rfl) ?_
            repeat (first | go_big_quiet_step ((go_at_call 50; exact G38.out _ _)) | quiet_step ((go_at_call 50; exact G38.out _ _)))
            refine wpQuiet_nil ?_
            intro _ hw'
            obtain ⟨⟨dq, osq⟩, hw''⟩ := hw'
            subst hw''
            have HI7 : Hid ((∀ y ∈ A.drop j, bef T i y) ∧ Sq W0 (grow (redrawn wr dq) osq) g (A.take j ++ i :: A.drop j ++ List.range' (i + 1) (n - i - 1))) := ⟨HI.out.1, HI.out.2.1.below (below_regrown wr dq osq), below_from HI.out.2.2 (below_regrown wr dq osq) HI.out.2.2.size⟩
            have c3 := cell_below c1 (below_regrown wr dq osq)
            have c4 := cell_below c2 (below_regrown wr dq osq)
            clear m1 m2 c1 c2 G38 HI hN r2
            generalize grow (redrawn wr dq) osq = W7 at *
            have f1 := HI7.out.2.1.fz t
            have f2 := HI7.out.2.1.fz j
            have hgl : g < W7.heap.size := HI7.out.2.1.lt
            have ntj : ¬ t = j := by have := HZ.out.2; omega
            have njt : ¬ j = t := by have := HZ.out.2; omega
            have H8 : Hid (∀ W8, W8.heap[g]? = W7.heap[g]? → Below W7.heap.size W7 W8 → (∀ y ∈ A.drop t, bef T i y) ∧ Sq W0 ((W8.setCell ⟨g, j, none⟩ (.int .i64 (z : Int))).setCell ⟨g, t, none⟩ (.int .i64 (i : Int))) g (A.take t ++ i :: A.drop t ++ List.range' (i + 1) (n - i - 1))) := by
              intro W8 e8 b8
              obtain ⟨z1, z2⟩ := HZ.out
              refine ⟨fun y hy => ?_, ?_, ((below_from HI7.out.2.2 b8 HI7.out.2.2.size).setCell HC.out.2.2 _).setCell HC.out.2.2 _⟩
              · obtain ⟨hl, e⟩ := List.getElem?_eq_some_iff.1 z1
                rw [List.drop_eq_getElem_cons hl] at hy
                rcases List.mem_cons.1 hy with rfl | hy
                · rw [e]; exact .inl HF.out
                · exact HI7.out.1 y (by rw [z2]; exact hy)
              · have := ((HI7.out.2.1.at e8).set j z).set t i
                rw [z2, shift_eq z1] at this
                rw [z2]
                exact this
            clear HI7 HF
            go_upto_region 6 with fail
            go_region
            all_goals go_wp2_with fail
            all_goals
              obtain ⟨p1, p2, p3⟩ := H8.out W7 rfl (Below.refl _ _)
              exact ⟨⟨t, rfl, by have := HZ.out.2; omega, p1, p2, p3.drew⟩, by have := HZ.out.2; simp only [intOf]; omega⟩
          · have r2 : decide (r < 0) = false := decide_eq_false hr
            have HF : Hid (∃ A, A.Perm (List.range (i + 1)) ∧ A.Pairwise (bef T) ∧ Sq W0 wr g (A ++ List.range' (i + 1) (n - (i + 1)))) := by
              obtain ⟨f1, f2⟩ := ins_fin HA.out.2.1 HA.out.1 HI.out.1 (.inr ⟨z, by have := HZ.out.2; rw [show j - 1 = t by omega]; exact HZ.out.1, fun q => hr (hN.out.2 q)⟩)
              refine ⟨_, f2, f1, ?_⟩
              rw [show n - (i + 1) = n - i - 1 by omega]
              exact HI.out.2
            refine wp_region_quiet_below (by kernel_rfl) (by kernel_rfl) ?_
            repeat (first | go_big_quiet_step ((go_at_call 50; exact G38.out _ _)) | quiet_step ((go_at_call 50; exact G38.out _ _)))
            refine wpQuiet_nil ?_
            intro _ hw'
            obtain ⟨⟨dq, osq⟩, hw''⟩ := hw'
            subst hw''
            clear m1 m2 c1 c2 G38 HI hN
            go_wp2_with fail
            refine ⟨⟨i + 1, by simp, by omega, by omega, ?_⟩, by simp only [intOf]; omega⟩
            obtain ⟨B, b1, b2, b3, b4⟩ := HF.out
            exact ⟨B, b1, b2, b3.below (below_regrown wr dq osq), below_from b4 (below_regrown wr dq osq) b4.size⟩
set_option maxHeartbeats 2000000 in
set_option maxRecDepth 100000 in
theorem stable_any (W0 w : World) (g bx n c : Nat) (T : List V) (hC : CB W0 bx T) (hb : Sq W0 w g (List.range n)) (hg : W0.heap.size ≤ g) (hn : T.length = n) (n1 : n ≤ 19) (n0 : 1 ≤ n) :
    Calls Tryz.prog 69 #[.slice (some ⟨g, 0, none⟩) n c, .int .i64 (n : Int), .func (.func 50) #[] #[.pointer (some ⟨bx, 0, none⟩)]] w fun e w' => e = .returned (.tuple #[]) ∧ Hid (∃ L, Ord T L ∧ Sq W0 w' g L) := by
  have H49 : Hid (Calls Tryz.prog 90 #[.slice (some ⟨g, 0, none⟩) n c, .int .i64 0, .int .i64 (n : Int), .func (.func 50) #[] #[.pointer (some ⟨bx, 0, none⟩)]] w fun e w' => e = .returned (.tuple #[]) ∧ Hid (∃ L, Ord T L ∧ Sq W0 w' g L)) := ins_sort W0 w g bx n c T hC hb hg hn (by omega) n0
  clear hC hb hg hn
  have e1 : ¬ (20 : Int) ≤ (n : Int) := by omega
  have e2 : ¬ (20 : Int) < (n : Int) := by omega
  have e3 : decide ((20 : Int) ≤ (n : Int)) = false := decide_eq_false e1
  have e4 : decide ((20 : Int) < (n : Int)) = false := decide_eq_false e2
  go_enter Tryz.func69, Tryz.ntmps69
  go_wp2_with fail
  go_loopw [7, 8] (fun y x wr => y = .int .i64 0 ∧ x = .int .i64 20 ∧ wr = w) (fun _ _ _ => 0)
  case atStart => exact ⟨rfl, rfl, rfl⟩
  case round =>
    obtain ⟨rfl, rfl, rfl⟩ := hrel
    go_wp2_with (go_at_call 90; refine H49.out.mono ?_; rintro e w1 ⟨rfl, h1⟩)
    clear H49
    go_loopw [6] (fun x wr => x = .int .i64 20 ∧ Hid (∃ L, Ord T L ∧ Sq W0 wr g L)) (fun _ _ => 0)
    case atStart => exact ⟨rfl, h1⟩
    case round =>
      clear h1
      obtain ⟨rfl, h1⟩ := hrel
      go_wp2_with fail
      go_end0
      exact ⟨rfl, h1⟩
set_option maxHeartbeats 400000 in
theorem sort_any (W0 w : World) (g bx n c : Nat) (T : List V) (hC : CB W0 bx T) (hb : Sq W0 w g (List.range n)) (hg : W0.heap.size ≤ g) (hn : T.length = n) (n1 : n ≤ 19) (n0 : 1 ≤ n) :
    Calls Tryz.prog 49 #[.slice (some ⟨g, 0, none⟩) n c, .func (.func 50) #[] #[.pointer (some ⟨bx, 0, none⟩)]] w fun e w' => e = .returned (.tuple #[]) ∧ Hid (∃ L, Ord T L ∧ Sq W0 w' g L) := by
  have H47 : Hid (Calls Tryz.prog 69 #[.slice (some ⟨g, 0, none⟩) n c, .int .i64 (n : Int), .func (.func 50) #[] #[.pointer (some ⟨bx, 0, none⟩)]] w fun e w' => e = .returned (.tuple #[]) ∧ Hid (∃ L, Ord T L ∧ Sq W0 w' g L)) := stable_any W0 w g bx n c T hC hb hg hn n1 n0
  clear hC hb hg hn
  go_enter Tryz.func49, Tryz.ntmps49
  go_wp2_with (go_at_call 69; refine H47.out.mono ?_; rintro e w1 ⟨rfl, h1⟩)
  go_end0
  exact ⟨rfl, h1⟩
theorem info3 : (Tryz.prog.info? 3).map (fun i => (i.zero, i.size, i.bytes)) = some (some (.int .i64 0), 1, 8) := by kernel_rfl
theorem info4 : (Tryz.prog.info? 4).map (fun i => (i.zero, i.size, i.bytes)) = some (some (.bool false), 1, 1) := by kernel_rfl
theorem info9 : (Tryz.prog.info? 9).map (fun i => (i.zero, i.size, i.bytes)) = some (some (.string ⟨#[]⟩), 1, 16) := by kernel_rfl
theorem make52 (n : Nat) (hn : n ≤ 1000000) (w : World) : (Instr.makeSlice 70 (.int .i64 (n : Int)) (.int .i64 (n : Int))).run Tryz.prog w = .ok (.slice (some ⟨w.heap.size, 0, none⟩) n n) (w.alloc (.cells (Array.replicate n (.int .i64 0)) 3)) := by
  rw [run_make_row' 70 3 (.int .i64 0) 8 Tryz.underlying70 info3 rfl .i64 .i64 n (by omega) (by omega) w, made_list]
theorem make26 (n : Nat) (hn : n ≤ 1000000) (w : World) : (Instr.makeSlice 29 (.int .i64 (n : Int)) (.int .i64 (n : Int))).run Tryz.prog w = .ok (.slice (some ⟨w.heap.size, 0, none⟩) n n) (w.alloc (.cells (Array.replicate n (.string ⟨#[]⟩)) 9)) := by
  rw [run_make_row' 29 9 (.string ⟨#[]⟩) 16 Tryz.underlying29 info9 rfl .i64 .i64 n (by omega) (by omega) w, made_list]
theorem make60 (n : Nat) (hn : n ≤ 1000000) (w : World) : (Instr.makeSlice 83 (.int .i64 (n : Int)) (.int .i64 (n : Int))).run Tryz.prog w = .ok (.slice (some ⟨w.heap.size, 0, none⟩) n n) (w.alloc (.cells (Array.replicate n (.bool false)) 4)) := by
  rw [run_make_row' 83 4 (.bool false) 1 Tryz.underlying83 info4 rfl .i64 .i64 n (by omega) (by omega) w, made_list]
set_option maxHeartbeats 2000000 in
set_option maxRecDepth 100000 in
theorem turns_any (w : World) (q : Option Addr) (n c : Nat) (T : List V) (hT : TA w q T) (hn : T.length = n) (n1 : n ≤ 19) (n0 : 1 ≤ n) :
    Calls Tryz.prog 24 #[.slice q n c] w fun e w' => ∃ g, e = .returned (.slice (some ⟨g, 0, none⟩) n n) ∧ Hid (LB 3 nI w' g (ordT T) ∧ w.heap.size ≤ g ∧ Below w.heap.size w w') := by
  have B0 : Hid (Below w.heap.size w (w.alloc (.cells #[.slice q n c] 22))) := (Below.refl _ w).alloc (Nat.le_refl _) _
  have HC : Hid (CB (w.alloc (.cells #[.slice q n c] 22)) w.heap.size T ∧ T.length = n) := ⟨⟨q, c, by rw [hn]; exact Lib.cell_of_heap new0 0, hT.below B0.out⟩, hn⟩
  have c0 : (w.alloc (.cells #[.slice q n c] 22)).cell? ⟨w.heap.size, 0, none⟩ = some (.slice q n c) := Lib.cell_of_heap new0 0
  clear hT hn
  go_enter Tryz.func24, Tryz.ntmps24
  go_upto_region 1 with fail
  obtain ⟨bx, hbx⟩ : ∃ bx, bx = w.heap.size := ⟨_, rfl⟩
  rw [← hbx] at c0 HC ⊢
  have HX : Hid (bx = w.heap.size) := hbx
  clear hbx
  generalize w.alloc (.cells #[.slice q n c] 22) = W0 at *
  have hmk := make52 n (by omega) W0
  go_upto_region 2 with fail
  clear hmk c0
  have S0 : Hid (Sq W0 (W0.alloc (.cells (Array.replicate n (.int .i64 0)) 3)) W0.heap.size (List.replicate n 0)) := ⟨by unfold LB; rw [List.map_replicate]; exact new0, (Below.refl _ W0).alloc (Nat.le_refl _) _⟩
  generalize W0.alloc (.cells (Array.replicate n (.int .i64 0)) 3) = W1 at *
  obtain ⟨g, hg⟩ : ∃ g, g = W0.heap.size := ⟨_, rfl⟩
  rw [← hg] at S0 ⊢
  have HG : Hid (g = W0.heap.size) := hg
  clear hg
  go_wp2_with fail
  go_loopw [10] (fun x wr => ∃ k : Nat, x = .int .i64 k ∧ k ≤ n ∧ Hid (Sq W0 wr g (List.range k ++ List.replicate (n - k) 0))) (fun x _ => n - (intOf x).toNat)
  case atStart =>
    have S1 : Sq W0 W1 g (List.range 0 ++ List.replicate (n - 0) 0) := by simpa using S0.out
    exact ⟨0, rfl, Nat.zero_le _, S1⟩
  case round =>
    clear S0
    obtain ⟨k, rfl, hk, HB⟩ := hrel
    by_cases h0 : k = n
    · subst h0
      have hb : Sq W0 wr g (List.range k) := by have := HB.out; rw [Nat.sub_self, List.replicate_zero, List.append_nil] at this; exact this
      have H37 : Hid (Calls Tryz.prog 49 #[.slice (some ⟨g, 0, none⟩) k k, .func (.func 50) #[] #[.pointer (some ⟨bx, 0, none⟩)]] wr fun e w' => e = .returned (.tuple #[]) ∧ Hid (∃ L, Ord T L ∧ Sq W0 w' g L)) := sort_any W0 wr g bx k k T HC.out.1 hb (by rw [HG.out]; exact Nat.le_refl _) HC.out.2 n1 n0
      clear hb HB
      go_wp2_with (go_at_call 49; refine H37.out.mono ?_; rintro e w1 ⟨rfl, h1⟩)
      go_ret
      obtain ⟨L, l1, l2, l3⟩ := h1.out
      have e := l1.uniq (ordT_ord T)
      rw [e] at l2
      exact ⟨g, rfl, l2, by have := B0.out.size; have := HG.out; omega, B0.out.trans (l3.mono B0.out.size)⟩
    · have hlt : k < n := by omega
      have hlt' : (k : Int) < (n : Int) := by omega
      have hd : decide ((k : Int) < (n : Int)) = true := decide_eq_true hlt'
      have hkm : (List.range k ++ List.replicate (n - k) 0)[k]? = some 0 := by
        rw [List.getElem?_append_right (by rw [List.length_range]; exact Nat.le_refl _), List.length_range, Nat.sub_self, List.getElem?_replicate, if_pos (by omega)]
      have c1 : wr.cell? ⟨g, k, none⟩ = some (.int .i64 ((0 : Nat) : Int)) := HB.out.1.cell hkm
      have f1 := HB.out.1.fz k
      have hgl := HB.out.1.lt
      have HN : Hid (Sq W0 (wr.setCell ⟨g, k, none⟩ (.int .i64 (k : Int))) g (List.range (k + 1) ++ List.replicate (n - (k + 1)) 0)) := by
        refine ⟨?_, HB.out.2.setCell (by rw [HG.out]; exact Nat.le_refl _) _⟩
        have := HB.out.1.set k k
        rw [List.set_append_right _ _ (by rw [List.length_range]; exact Nat.le_refl _), List.length_range, Nat.sub_self, show n - k = (n - (k + 1)) + 1 by omega, List.replicate_succ, List.set_cons_zero] at this
        rw [List.range_succ, List.append_assoc]
        exact this
      clear HB hkm
      go_wp2_with fail
      exact ⟨⟨k + 1, by simp, by omega, HN.out⟩, by simp only [intOf]; omega⟩
end Go.Proofs.YtjgibngnjlciaaaGreat
