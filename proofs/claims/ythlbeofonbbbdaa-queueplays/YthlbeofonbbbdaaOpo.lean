/-
  The law's step: a call on both queues, a kind each. The law's step: Head and List, Top and Tenants, what is no call; any step. QueuePlays' law. The laws' arguments, opened: a script.
-/
import Derived.Test.YthlbeofonbbbdaaPh
import Derived.Test.YthlbeofonbbbdaaTp
import Derived.Deep.RegionWith
import Derived.Test.YthlbeofonbbbdaaOpw
namespace Go.Proofs.Ythlbeofonbbbdaa
open Go.RowKit Go.Maps Go.WideMaps
/-- what a step leaves -/
def StR (w0 : World) (pb rb N : Nat) (e : Ending) (w' : World) : Prop := e = .returned (.bool true) ∧ Hid (∃ D, Q2 w0 w' NX pb rb D D N)
/-- the law's boxes -/
def opW (w : World) (k : Int) (x : J) : World := (w.alloc (.cells #[.int .i64 k, .int .i64 x.job, .string ⟨⟨x.tn⟩⟩, .int .i64 x.pr] 34 (0, 0))).alloc (.cells #[.int .i64 x.job, .string ⟨⟨x.tn⟩⟩, .int .i64 x.pr] 32 (0, 0))
section
variable {w0 w w' : World} {X : Nat → Option Obj} {pb rb N N' : Nat} {D D' : List J} {x : J}
theorem Q2.more (h : Q2 w0 w X pb rb D D' N) (hN : N ≤ N') : Q2 w0 w X pb rb D D' N' := by
  obtain ⟨S, T, h1, h2, h3, h4⟩ := h.both
  exact ⟨h.bel, ⟨S, T, h1.more hN, h2, h3, h4⟩, h.kept, h.sm⟩
/-- the box of the waiter is kept -/
def XO (w : World) (x : J) : Nat → Option Obj := XS NX (w.heap.size + 1) (bxO x)
theorem opW_below (w : World) (k : Int) (x : J) : Below w.heap.size w (opW w k x) := ((Below.refl _ w).alloc (Nat.le_refl _) _).alloc (by rw [World.size_alloc]; omega) _
theorem opW_q (h : Q2 w0 w NX pb rb D D' N) (k : Int) (x : J) : Q2 w0 (opW w k x) (XO w x) pb rb D D' N := by
  have e : (opW w k x).heap[w.heap.size + 1]? = some (bxO x) := by
    have := new0 (w := w.alloc (.cells #[.int .i64 k, .int .i64 x.job, .string ⟨⟨x.tn⟩⟩, .int .i64 x.pr] 34 (0, 0))) (o := bxO x)
    rw [World.size_alloc] at this
    exact this
  exact h.add (opW_below w k x) e (by omega)
theorem q_cells {w1 : World} (h : Q2 w0 w1 (XO w x) pb rb D D' N) : w1.cell? ⟨w.heap.size + 1, 0, none⟩ = some (.int .i64 x.job) ∧ w1.cell? ⟨w.heap.size + 1, 1, none⟩ = some (.string ⟨⟨x.tn⟩⟩) ∧ w1.cell? ⟨w.heap.size + 1, 2, none⟩ = some (.int .i64 x.pr) ∧ w.heap.size + 1 < w1.heap.size := by
  have := h.kept (w.heap.size + 1) (bxO x) (if_pos rfl)
  obtain ⟨a, b, c⟩ := c3 this
  exact ⟨a, b, c, (Array.getElem?_eq_some_iff.1 this).1⟩
theorem q_end {w1 : World} (h : Q2 w0 w1 (XO w x) pb rb D D N) (hN : N ≤ N') : ∃ D, Q2 w0 w1 NX pb rb D D N' := ⟨D, (h.drop fun k o e => by cases e).more hN⟩
set_option maxHeartbeats 2000000 in
set_option maxRecDepth 100000 in
theorem step1 (h : Q2 w0 w NX pb rb D D N) (x : J) (hz : x.tn.length ≤ 281474976710656) (hN : N < 1048576) :
    Calls Try.prog 10 #[.pointer (some ⟨pb, 0, none⟩), .pointer (some ⟨rb, 0, none⟩), .agg #[.int .i64 1, .int .i64 x.job, .string ⟨⟨x.tn⟩⟩, .int .i64 x.pr]] w (StR w0 pb rb (N + 1)) := by
  have hF := h.few
  have H0 : Hid (Q2 w0 (opW w 1 x) (XO w x) pb rb D D N) := opW_q h 1 x
  have HP : Hid (∀ W, Q2 w0 W (XO w x) pb rb D D N → Calls Try.prog 12 #[.pointer (some ⟨pb, 0, none⟩), .agg #[.int .i64 x.job, .string ⟨⟨x.tn⟩⟩, .int .i64 x.pr]] W fun e w' => e = .returned (.int .i64 (pushD D x).1) ∧ Hid (Q2 w0 w' (XO w x) pb rb (pushD D x).2 D (N + 1))) := fun W h => q_push h x hz hN
  have HL : Hid (∀ W j p s, Calls Try.prog 20 #[.agg #[.int .i64 j, .string s, .int .i64 p]] W fun e w' => e = .returned (.agg #[.int .i64 j, .string s, .int .i64 p]) ∧ Hid (Below W.heap.size W w')) := fun W j p s => plain_any W j p s
  have HR : Hid (∀ W, Q2 w0 W (XO w x) pb rb (pushD D x).2 D (N + 1) → Calls Try.prog 19 #[.pointer (some ⟨rb, 0, none⟩), .agg #[.int .i64 x.job, .string ⟨⟨x.tn⟩⟩, .int .i64 x.pr]] W fun e w' => e = .returned (.int .i64 (pushD D x).1) ∧ Hid (Q2 w0 w' (XO w x) pb rb (pushD D x).2 (pushD D x).2 (N + 1))) := fun W h => q_rpush h x hF.1 (by omega)
  have SS : Hid (∀ W D D' N, Q2 w0 W (XO w x) pb rb D D' N → W.cell? ⟨w.heap.size + 1, 0, none⟩ = some (.int .i64 x.job) ∧ W.cell? ⟨w.heap.size + 1, 1, none⟩ = some (.string ⟨⟨x.tn⟩⟩) ∧ W.cell? ⟨w.heap.size + 1, 2, none⟩ = some (.int .i64 x.pr) ∧ w.heap.size + 1 < W.heap.size) := fun W D D' N h => q_cells h
  clear hF hz hN h
  go_enter Try.func10, Try.ntmps10
  go_upto_region 4 with fail
  generalize hW : (w.alloc (.cells #[.int .i64 1, .int .i64 x.job, .string ⟨⟨x.tn⟩⟩, .int .i64 x.pr] 34)).alloc (.cells #[.int .i64 x.job, .string ⟨⟨x.tn⟩⟩, .int .i64 x.pr] 32) = W0
  have H1 : Hid (Q2 w0 W0 (XO w x) pb rb D D N) := by subst hW; exact H0.out
  clear hW H0
  generalize XO w x = X at *
  generalize w.heap.size + 1 = b7 at *
  have zz := SS.out _ _ _ _ H1.out
  have zd := SS.out (W0.drewN 1) _ _ _ (H1.out.below (below_drewN (Below.refl _ _) 1))
  have BX := HP.out (W0.drewN 1) (H1.out.below (below_drewN (Below.refl _ _) 1))
  clear HP H1
  obtain ⟨xj, xt, xp⟩ := x
  generalize pushD D ⟨xj, xt, xp⟩ = PD at *
  obtain ⟨r, D1⟩ := PD
  simp only [] at zz zd BX HR SS
  go_region_held3 (fun W : World => W.cell? ⟨b7, 0, none⟩ = some (.int .i64 xj) ∧ W.cell? ⟨b7, 1, none⟩ = some (.string ⟨⟨xt⟩⟩) ∧ W.cell? ⟨b7, 2, none⟩ = some (.int .i64 xp) ∧ b7 < W.heap.size) (first | (with_reducible assumption) | (with_reducible exact zd) | (exact zd) | (exact zz) | go_keep) (first
    | (go_at_call 12; refine BX.mono ?_; rintro e wA ⟨rfl, hA⟩; have zz := SS.out _ _ _ _ hA.out)
    | (go_at_call 20; refine (HL.out _ _ _ _).mono ?_; rintro e wB ⟨rfl, hB⟩; have HB : Hid (Q2 w0 wB X pb rb D1 D (N + 1)) := hA.out.below hB.out; have zz := SS.out _ _ _ _ HB.out)
    | (go_at_call 19; refine (HR.out _ HB.out).mono ?_; rintro e wC ⟨rfl, hC⟩; have zz := SS.out _ _ _ _ hC.out))
  all_goals go_wp2_with fail
  all_goals go_ret
  all_goals exact ⟨by simp, D1, hC.out.drop fun k o e => by cases e⟩
set_option maxHeartbeats 2000000 in
set_option maxRecDepth 100000 in
theorem step2 (h : Q2 w0 w NX pb rb D D N) (x : J) (hx : wf x.job) :
    Calls Try.prog 10 #[.pointer (some ⟨pb, 0, none⟩), .pointer (some ⟨rb, 0, none⟩), .agg #[.int .i64 2, .int .i64 x.job, .string ⟨⟨x.tn⟩⟩, .int .i64 x.pr]] w (StR w0 pb rb (N + 1)) := by
  have hF := h.few
  have H0 : Hid (Q2 w0 (opW w 2 x) (XO w x) pb rb D D N) := opW_q h 2 x
  have HL : Hid (∀ W j p s, Calls Try.prog 20 #[.agg #[.int .i64 j, .string s, .int .i64 p]] W fun e w' => e = .returned (.agg #[.int .i64 j, .string s, .int .i64 p]) ∧ Hid (Below W.heap.size W w')) := fun W j p s => plain_any W j p s
  have SS : Hid (∀ W D D' N, Q2 w0 W (XO w x) pb rb D D' N → W.cell? ⟨w.heap.size + 1, 0, none⟩ = some (.int .i64 x.job) ∧ W.cell? ⟨w.heap.size + 1, 1, none⟩ = some (.string ⟨⟨x.tn⟩⟩) ∧ W.cell? ⟨w.heap.size + 1, 2, none⟩ = some (.int .i64 x.pr) ∧ w.heap.size + 1 < W.heap.size) := fun W D D' N h => q_cells h
  have HP : Hid (∀ W, Q2 w0 W (XO w x) pb rb D D N → Calls Try.prog 16 #[.pointer (some ⟨pb, 0, none⟩), .int .i64 x.job] W fun e w' => e = .returned (.int .i64 (remD D x.job).1) ∧ Hid (Q2 w0 w' (XO w x) pb rb (remD D x.job).2 D N)) := fun W h => q_rem h x.job hx
  have HR : Hid (∀ W, Q2 w0 W (XO w x) pb rb (remD D x.job).2 D N → Calls Try.prog 23 #[.pointer (some ⟨rb, 0, none⟩), .int .i64 x.job] W fun e w' => e = .returned (.int .i64 (remD D x.job).1) ∧ Hid (Q2 w0 w' (XO w x) pb rb (remD D x.job).2 (remD D x.job).2 N)) := fun W h => q_rrem h x.job hF.2.1 (by omega)
  clear hx
  clear hF h
  go_enter Try.func10, Try.ntmps10
  go_upto_region 6 with fail
  generalize hW : (w.alloc (.cells #[.int .i64 2, .int .i64 x.job, .string ⟨⟨x.tn⟩⟩, .int .i64 x.pr] 34)).alloc (.cells #[.int .i64 x.job, .string ⟨⟨x.tn⟩⟩, .int .i64 x.pr] 32) = W0
  have H1 : Hid (Q2 w0 W0 (XO w x) pb rb D D N) := by subst hW; exact H0.out
  clear hW H0
  generalize XO w x = X at *
  generalize w.heap.size + 1 = b7 at *
  have zz := SS.out _ _ _ _ H1.out
  have zd := SS.out (W0.drewN 1) _ _ _ (H1.out.below (below_drewN (Below.refl _ _) 1))
  have BX := HP.out (W0.drewN 1) (H1.out.below (below_drewN (Below.refl _ _) 1))
  clear HP H1
  obtain ⟨xj, xt, xp⟩ := x
  simp only [] at zz zd BX HR SS
  generalize remD D xj = PD at *
  obtain ⟨r, D1⟩ := PD
  simp only [] at BX HR
  go_region_held3 (fun W : World => W.cell? ⟨b7, 0, none⟩ = some (.int .i64 xj) ∧ W.cell? ⟨b7, 1, none⟩ = some (.string ⟨⟨xt⟩⟩) ∧ W.cell? ⟨b7, 2, none⟩ = some (.int .i64 xp) ∧ b7 < W.heap.size) (first | (with_reducible assumption) | (with_reducible exact zd) | (exact zd) | (exact zz) | go_keep) (first
    | (go_at_call 16; refine BX.mono ?_; rintro e wA ⟨rfl, hA⟩; have zz := SS.out _ _ _ _ hA.out)
    | (go_at_call 23; refine (HR.out _ hA.out).mono ?_; rintro e wC ⟨rfl, hC⟩; have zz := SS.out _ _ _ _ hC.out))
  all_goals go_wp2_with fail
  all_goals go_ret
  all_goals exact ⟨by simp, D1, (hC.out.drop fun k o e => by cases e).more (Nat.le_succ _)⟩
set_option maxHeartbeats 2000000 in
set_option maxRecDepth 100000 in
theorem step3 (h : Q2 w0 w NX pb rb D D N) (x : J) (hx : wf x.job) :
    Calls Try.prog 10 #[.pointer (some ⟨pb, 0, none⟩), .pointer (some ⟨rb, 0, none⟩), .agg #[.int .i64 3, .int .i64 x.job, .string ⟨⟨x.tn⟩⟩, .int .i64 x.pr]] w (StR w0 pb rb (N + 1)) := by
  have hF := h.few
  have H0 : Hid (Q2 w0 (opW w 3 x) (XO w x) pb rb D D N) := opW_q h 3 x
  have HL : Hid (∀ W j p s, Calls Try.prog 20 #[.agg #[.int .i64 j, .string s, .int .i64 p]] W fun e w' => e = .returned (.agg #[.int .i64 j, .string s, .int .i64 p]) ∧ Hid (Below W.heap.size W w')) := fun W j p s => plain_any W j p s
  have SS : Hid (∀ W D D' N, Q2 w0 W (XO w x) pb rb D D' N → W.cell? ⟨w.heap.size + 1, 0, none⟩ = some (.int .i64 x.job) ∧ W.cell? ⟨w.heap.size + 1, 1, none⟩ = some (.string ⟨⟨x.tn⟩⟩) ∧ W.cell? ⟨w.heap.size + 1, 2, none⟩ = some (.int .i64 x.pr) ∧ w.heap.size + 1 < W.heap.size) := fun W D D' N h => q_cells h
  have HP : Hid (∀ W, Q2 w0 W (XO w x) pb rb D D N → Calls Try.prog 18 #[.pointer (some ⟨pb, 0, none⟩), .int .i64 x.job] W fun e w' => e = ansJ (getD D x.job) ∧ Below W.heap.size W w') := fun W h => q_get h x.job hx
  have HR : Hid (∀ W, Q2 w0 W (XO w x) pb rb D D N → Calls Try.prog 24 #[.pointer (some ⟨rb, 0, none⟩), .int .i64 x.job] W fun e w' => e = ansJ (getD D x.job) ∧ Below W.heap.size W w') := fun W h => q_rget h (by omega) x.job
  clear hx
  clear hF h
  go_enter Try.func10, Try.ntmps10
  go_upto_region 8 with fail
  generalize hW : (w.alloc (.cells #[.int .i64 3, .int .i64 x.job, .string ⟨⟨x.tn⟩⟩, .int .i64 x.pr] 34)).alloc (.cells #[.int .i64 x.job, .string ⟨⟨x.tn⟩⟩, .int .i64 x.pr] 32) = W0
  have H1 : Hid (Q2 w0 W0 (XO w x) pb rb D D N) := by subst hW; exact H0.out
  clear hW H0
  generalize XO w x = X at *
  generalize w.heap.size + 1 = b7 at *
  have zz := SS.out _ _ _ _ H1.out
  obtain ⟨xj, xt, xp⟩ := x
  simp only [] at zz HP HR SS
  generalize getD D xj = PD at *
  obtain ⟨⟨aj, an, ap⟩, r⟩ := PD
  simp only [ansJ] at HP HR
  have BX := HP.out _ H1.out
  go_upto_region 9 with (go_at_call 18; refine BX.mono ?_; rintro e w1 ⟨rfl, b1⟩)
  have B1 : Hid (Below W0.heap.size W0 (w1.alloc (.cells #[.int .i64 aj, .string ⟨⟨an⟩⟩, .int .i64 ap] 32))) := b1.alloc b1.size _
  have H2 : Hid (Q2 w0 (w1.alloc (.cells #[.int .i64 aj, .string ⟨⟨an⟩⟩, .int .i64 ap] 32)) X pb rb D D N) := H1.out.below B1.out
  have N1 : Hid ((w1.alloc (.cells #[.int .i64 aj, .string ⟨⟨an⟩⟩, .int .i64 ap] 32)).heap[w1.heap.size]? = some (.cells #[.int .i64 aj, .string ⟨⟨an⟩⟩, .int .i64 ap] 32 (0, 0))) := new0
  clear BX b1 zz H1 B1
  generalize w1.alloc (.cells #[.int .i64 aj, .string ⟨⟨an⟩⟩, .int .i64 ap] 32) = W1 at *
  generalize w1.heap.size = b8 at *
  have zz := SS.out _ _ _ _ H2.out
  have BX := HR.out _ H2.out
  go_upto_region 10 with (go_at_call 24; refine BX.mono ?_; rintro e w2 ⟨rfl, b2⟩)
  have B2 : Hid (Below W1.heap.size W1 (w2.alloc (.cells #[.int .i64 aj, .string ⟨⟨an⟩⟩, .int .i64 ap] 56))) := b2.alloc b2.size _
  have H3 : Hid (Q2 w0 (w2.alloc (.cells #[.int .i64 aj, .string ⟨⟨an⟩⟩, .int .i64 ap] 56)) X pb rb D D N) := H2.out.below B2.out
  have N2 : Hid ((w2.alloc (.cells #[.int .i64 aj, .string ⟨⟨an⟩⟩, .int .i64 ap] 56)).heap[b8]? = some (.cells #[.int .i64 aj, .string ⟨⟨an⟩⟩, .int .i64 ap] 32 (0, 0)) ∧ (w2.alloc (.cells #[.int .i64 aj, .string ⟨⟨an⟩⟩, .int .i64 ap] 56)).heap[w2.heap.size]? = some (.cells #[.int .i64 aj, .string ⟨⟨an⟩⟩, .int .i64 ap] 56 (0, 0))) := ⟨at_below B2.out (Nat.le_refl _) N1.out, new0⟩
  clear BX b2 zz H2 B2 N1 HP HR
  generalize w2.alloc (.cells #[.int .i64 aj, .string ⟨⟨an⟩⟩, .int .i64 ap] 56) = W2 at *
  generalize w2.heap.size = b9 at *
  have CC : Hid (∀ W, Below W2.heap.size W2 W → W.cell? ⟨b7, 0, none⟩ = some (.int .i64 xj) ∧ W.cell? ⟨b7, 1, none⟩ = some (.string ⟨⟨xt⟩⟩) ∧ W.cell? ⟨b7, 2, none⟩ = some (.int .i64 xp) ∧ b7 < W.heap.size ∧ W.cell? ⟨b8, 0, none⟩ = some (.int .i64 aj) ∧ W.cell? ⟨b8, 1, none⟩ = some (.string ⟨⟨an⟩⟩) ∧ W.cell? ⟨b8, 2, none⟩ = some (.int .i64 ap) ∧ b8 < W.heap.size ∧ W.cell? ⟨b9, 0, none⟩ = some (.int .i64 aj) ∧ W.cell? ⟨b9, 1, none⟩ = some (.string ⟨⟨an⟩⟩) ∧ W.cell? ⟨b9, 2, none⟩ = some (.int .i64 ap) ∧ b9 < W.heap.size) := fun W b => by
    obtain ⟨q0, q1, q2, q3⟩ := SS.out _ _ _ _ (H3.out.below b)
    have n1 := at_below b (Nat.le_refl _) N2.out.1
    have n2 := at_below b (Nat.le_refl _) N2.out.2
    obtain ⟨u0, u1, u2⟩ := c3 n1
    obtain ⟨v0, v1, v2⟩ := c3 n2
    exact ⟨q0, q1, q2, q3, u0, u1, u2, (Array.getElem?_eq_some_iff.1 n1).1, v0, v1, v2, (Array.getElem?_eq_some_iff.1 n2).1⟩
  clear SS N2
  have q56 := eq56 aj ap ⟨⟨an⟩⟩
  have zz := CC.out W2 (Below.refl _ _)
  have zd := CC.out (W2.drewN 1) (below_drewN (Below.refl _ _) 1)
  have BL := HL.out (W2.drewN 1)
  go_region_held3 (fun W : World => W.cell? ⟨b7, 0, none⟩ = some (.int .i64 xj) ∧ W.cell? ⟨b7, 1, none⟩ = some (.string ⟨⟨xt⟩⟩) ∧ W.cell? ⟨b7, 2, none⟩ = some (.int .i64 xp) ∧ b7 < W.heap.size ∧ W.cell? ⟨b8, 0, none⟩ = some (.int .i64 aj) ∧ W.cell? ⟨b8, 1, none⟩ = some (.string ⟨⟨an⟩⟩) ∧ W.cell? ⟨b8, 2, none⟩ = some (.int .i64 ap) ∧ b8 < W.heap.size ∧ W.cell? ⟨b9, 0, none⟩ = some (.int .i64 aj) ∧ W.cell? ⟨b9, 1, none⟩ = some (.string ⟨⟨an⟩⟩) ∧ W.cell? ⟨b9, 2, none⟩ = some (.int .i64 ap) ∧ b9 < W.heap.size) (first | (with_reducible assumption) | (with_reducible exact zd) | (exact zd) | (exact zz) | go_keep) (first
    | (go_at_call 20; refine (BL _ _ _).mono ?_; rintro e wA ⟨rfl, hA⟩; have bA : Hid (Below W2.heap.size W2 wA) := (below_drewN (Below.refl _ W2) 1).trans hA.out; have zz := CC.out _ bA.out))
  all_goals go_wp2_with fail
  all_goals go_ret
  all_goals exact ⟨by simp, D, ((H3.out.below bA.out).drop fun k o e => by cases e).more (Nat.le_succ _)⟩
end
end Go.Proofs.Ythlbeofonbbbdaa

namespace Go.Proofs.Ythlbeofonbbbdaa
open Go.RowKit Go.Maps Go.WideMaps
section
variable {w0 w w' : World} {X : Nat → Option Obj} {pb rb N N' : Nat} {D D' : List J} {x : J}
set_option maxHeartbeats 2000000 in
set_option maxRecDepth 100000 in
theorem step4 (h : Q2 w0 w NX pb rb D D N) (x : J) (hz : x.tn.length ≤ 281474976710656) :
    Calls Try.prog 10 #[.pointer (some ⟨pb, 0, none⟩), .pointer (some ⟨rb, 0, none⟩), .agg #[.int .i64 4, .int .i64 x.job, .string ⟨⟨x.tn⟩⟩, .int .i64 x.pr]] w (StR w0 pb rb (N + 1)) := by
  have hF := h.few
  have H0 : Hid (Q2 w0 (opW w 4 x) (XO w x) pb rb D D N) := opW_q h 4 x
  have HL : Hid (∀ W j p s, Calls Try.prog 20 #[.agg #[.int .i64 j, .string s, .int .i64 p]] W fun e w' => e = .returned (.agg #[.int .i64 j, .string s, .int .i64 p]) ∧ Hid (Below W.heap.size W w')) := fun W j p s => plain_any W j p s
  have SS : Hid (∀ W D D' N, Q2 w0 W (XO w x) pb rb D D' N → W.cell? ⟨w.heap.size + 1, 0, none⟩ = some (.int .i64 x.job) ∧ W.cell? ⟨w.heap.size + 1, 1, none⟩ = some (.string ⟨⟨x.tn⟩⟩) ∧ W.cell? ⟨w.heap.size + 1, 2, none⟩ = some (.int .i64 x.pr) ∧ w.heap.size + 1 < W.heap.size) := fun W D D' N h => q_cells h
  have HP : Hid (∀ W, Q2 w0 W (XO w x) pb rb D D N → Calls Try.prog 15 #[.pointer (some ⟨pb, 0, none⟩), .string ⟨⟨x.tn⟩⟩] W fun e w' => e = ansJ (headD D x.tn) ∧ Below W.heap.size W w') := fun W h => q_head h x.tn hz
  have HR : Hid (∀ W, Q2 w0 W (XO w x) pb rb D D N → Calls Try.prog 25 #[.pointer (some ⟨rb, 0, none⟩), .string ⟨⟨x.tn⟩⟩] W fun e w' => e = ansJ (headD D x.tn) ∧ Below W.heap.size W w') := fun W h => q_rhead h (by omega) x.tn
  obtain ⟨ln, hln⟩ : ∃ ln, ln = (ofT x.tn D).length := ⟨_, rfl⟩
  have hln1 : ln ≤ 1000000 := by have := List.length_filter_le (fun a : J => a.tn == x.tn) D; rw [hln]; unfold ofT; omega
  have HA : Hid (∀ W, Q2 w0 W (XO w x) pb rb D D N → Calls Try.prog 14 #[.pointer (some ⟨pb, 0, none⟩), .string ⟨⟨x.tn⟩⟩] W fun e w' => ∃ p c, e = .returned (.slice p ln c) ∧ Hid (WRow W.heap.size w' (.slice p ln c) (ofT x.tn D) ∧ Below W.heap.size W w')) := fun W h => by rw [hln]; exact q_list h x.tn
  have HB : Hid (∀ W, Q2 w0 W (XO w x) pb rb D D N → Calls Try.prog 22 #[.pointer (some ⟨rb, 0, none⟩), .string ⟨⟨x.tn⟩⟩] W fun e w' => ∃ p c, e = .returned (.slice p ln c) ∧ Hid (RRow W.heap.size w' (.slice p ln c) (ofT x.tn D) ∧ Below W.heap.size W w')) := fun W h => by rw [hln]; exact q_rlist h (by omega) x.tn
  have HS : Hid (∀ W b1 b2 q1 q2 c1 c2, WRow b1 W (.slice q1 ln c1) (ofT x.tn D) → RRow b2 W (.slice q2 ln c2) (ofT x.tn D) → Calls Try.prog 21 #[.slice q1 ln c1, .slice q2 ln c2] W fun e w' => e = .returned (.bool true) ∧ Hid (Below W.heap.size W w')) := fun W b1 b2 q1 q2 c1 c2 h1 h2 => same_any W ln c1 c2 b1 b2 q1 q2 _ h1 h2 hln1
  clear hz hln hln1
  clear hF h
  go_enter Try.func10, Try.ntmps10
  go_upto_region 12 with fail
  generalize hW : (w.alloc (.cells #[.int .i64 4, .int .i64 x.job, .string ⟨⟨x.tn⟩⟩, .int .i64 x.pr] 34)).alloc (.cells #[.int .i64 x.job, .string ⟨⟨x.tn⟩⟩, .int .i64 x.pr] 32) = W0
  have H1 : Hid (Q2 w0 W0 (XO w x) pb rb D D N) := by subst hW; exact H0.out
  clear hW H0
  generalize XO w x = X at *
  generalize w.heap.size + 1 = b7 at *
  have zz := SS.out _ _ _ _ H1.out
  obtain ⟨xj, xt, xp⟩ := x
  simp only [] at zz HP HR SS HA HB HS
  generalize headD D xt = PD at *
  obtain ⟨⟨aj, an, ap⟩, r⟩ := PD
  simp only [ansJ] at HP HR
  have BX := HP.out _ H1.out
  go_upto_region 13 with (go_at_call 15; refine BX.mono ?_; rintro e w1 ⟨rfl, b1⟩)
  have B1 : Hid (Below W0.heap.size W0 (w1.alloc (.cells #[.int .i64 aj, .string ⟨⟨an⟩⟩, .int .i64 ap] 32))) := b1.alloc b1.size _
  have H2 : Hid (Q2 w0 (w1.alloc (.cells #[.int .i64 aj, .string ⟨⟨an⟩⟩, .int .i64 ap] 32)) X pb rb D D N) := H1.out.below B1.out
  have N1 : Hid ((w1.alloc (.cells #[.int .i64 aj, .string ⟨⟨an⟩⟩, .int .i64 ap] 32)).heap[w1.heap.size]? = some (.cells #[.int .i64 aj, .string ⟨⟨an⟩⟩, .int .i64 ap] 32 (0, 0))) := new0
  clear BX b1 zz H1 B1
  generalize w1.alloc (.cells #[.int .i64 aj, .string ⟨⟨an⟩⟩, .int .i64 ap] 32) = W1 at *
  generalize w1.heap.size = b8 at *
  have zz := SS.out _ _ _ _ H2.out
  have BX := HR.out _ H2.out
  go_upto_region 14 with (go_at_call 25; refine BX.mono ?_; rintro e w2 ⟨rfl, b2⟩)
  have B2 : Hid (Below W1.heap.size W1 (w2.alloc (.cells #[.int .i64 aj, .string ⟨⟨an⟩⟩, .int .i64 ap] 56))) := b2.alloc b2.size _
  have H3 : Hid (Q2 w0 (w2.alloc (.cells #[.int .i64 aj, .string ⟨⟨an⟩⟩, .int .i64 ap] 56)) X pb rb D D N) := H2.out.below B2.out
  have N2 : Hid ((w2.alloc (.cells #[.int .i64 aj, .string ⟨⟨an⟩⟩, .int .i64 ap] 56)).heap[b8]? = some (.cells #[.int .i64 aj, .string ⟨⟨an⟩⟩, .int .i64 ap] 32 (0, 0)) ∧ (w2.alloc (.cells #[.int .i64 aj, .string ⟨⟨an⟩⟩, .int .i64 ap] 56)).heap[w2.heap.size]? = some (.cells #[.int .i64 aj, .string ⟨⟨an⟩⟩, .int .i64 ap] 56 (0, 0))) := ⟨at_below B2.out (Nat.le_refl _) N1.out, new0⟩
  clear BX b2 zz H2 B2 N1 HP HR
  generalize w2.alloc (.cells #[.int .i64 aj, .string ⟨⟨an⟩⟩, .int .i64 ap] 56) = W2 at *
  generalize w2.heap.size = b9 at *
  have CC : Hid (∀ W, Below W2.heap.size W2 W → W.cell? ⟨b7, 0, none⟩ = some (.int .i64 xj) ∧ W.cell? ⟨b7, 1, none⟩ = some (.string ⟨⟨xt⟩⟩) ∧ W.cell? ⟨b7, 2, none⟩ = some (.int .i64 xp) ∧ b7 < W.heap.size ∧ W.cell? ⟨b8, 0, none⟩ = some (.int .i64 aj) ∧ W.cell? ⟨b8, 1, none⟩ = some (.string ⟨⟨an⟩⟩) ∧ W.cell? ⟨b8, 2, none⟩ = some (.int .i64 ap) ∧ b8 < W.heap.size ∧ W.cell? ⟨b9, 0, none⟩ = some (.int .i64 aj) ∧ W.cell? ⟨b9, 1, none⟩ = some (.string ⟨⟨an⟩⟩) ∧ W.cell? ⟨b9, 2, none⟩ = some (.int .i64 ap) ∧ b9 < W.heap.size) := fun W b => by
    obtain ⟨q0, q1, q2, q3⟩ := SS.out _ _ _ _ (H3.out.below b)
    have n1 := at_below b (Nat.le_refl _) N2.out.1
    have n2 := at_below b (Nat.le_refl _) N2.out.2
    obtain ⟨u0, u1, u2⟩ := c3 n1
    obtain ⟨v0, v1, v2⟩ := c3 n2
    exact ⟨q0, q1, q2, q3, u0, u1, u2, (Array.getElem?_eq_some_iff.1 n1).1, v0, v1, v2, (Array.getElem?_eq_some_iff.1 n2).1⟩
  clear SS N2
  have q56 := eq56 aj ap ⟨⟨an⟩⟩
  have zz := CC.out W2 (Below.refl _ _)
  have zd := CC.out (W2.drewN 1) (below_drewN (Below.refl _ _) 1)
  have BL := HL.out (W2.drewN 1)
  generalize ofT xt D = LT at *
  go_region_held3 (fun W : World => W.cell? ⟨b7, 0, none⟩ = some (.int .i64 xj) ∧ W.cell? ⟨b7, 1, none⟩ = some (.string ⟨⟨xt⟩⟩) ∧ W.cell? ⟨b7, 2, none⟩ = some (.int .i64 xp) ∧ b7 < W.heap.size ∧ W.cell? ⟨b8, 0, none⟩ = some (.int .i64 aj) ∧ W.cell? ⟨b8, 1, none⟩ = some (.string ⟨⟨an⟩⟩) ∧ W.cell? ⟨b8, 2, none⟩ = some (.int .i64 ap) ∧ b8 < W.heap.size ∧ W.cell? ⟨b9, 0, none⟩ = some (.int .i64 aj) ∧ W.cell? ⟨b9, 1, none⟩ = some (.string ⟨⟨an⟩⟩) ∧ W.cell? ⟨b9, 2, none⟩ = some (.int .i64 ap) ∧ b9 < W.heap.size) (first | (with_reducible assumption) | (with_reducible exact zd) | (exact zd) | (exact zz) | go_keep) (first
    | (go_at_call 20; refine (BL _ _ _).mono ?_; rintro e wA ⟨rfl, hA⟩; have bA : Hid (Below W2.heap.size W2 wA) := (below_drewN (Below.refl _ W2) 1).trans hA.out; have zz := CC.out _ bA.out)
    | (go_at_call 14; refine (HA.out _ (H3.out.below bA.out)).mono ?_; rintro e wB ⟨p1, c1, rfl, hB⟩; have bB : Hid (Below W2.heap.size W2 wB) := bA.out.trans (hB.out.2.mono bA.out.size); have zz := CC.out _ bB.out)
    | (go_at_call 22; refine (HB.out _ (H3.out.below bB.out)).mono ?_; rintro e wC ⟨p2, c2, rfl, hC⟩; have bC : Hid (Below W2.heap.size W2 wC) := bB.out.trans (hC.out.2.mono bB.out.size); have zz := CC.out _ bC.out)
    | (go_at_call 21; refine (HS.out _ _ _ _ _ _ _ (hB.out.1.below hC.out.2) hC.out.1).mono ?_; rintro e wD ⟨rfl, hD⟩; have bD : Hid (Below W2.heap.size W2 wD) := bC.out.trans (hD.out.mono bC.out.size); have zz := CC.out _ bD.out))
  all_goals go_wp2_with fail
  all_goals go_ret
  all_goals exact ⟨by simp, D, ((H3.out.below bD.out).drop fun k o e => by cases e).more (Nat.le_succ _)⟩
set_option maxHeartbeats 2000000 in
set_option maxRecDepth 100000 in
theorem step5 (h : Q2 w0 w NX pb rb D D N) (x : J) :
    Calls Try.prog 10 #[.pointer (some ⟨pb, 0, none⟩), .pointer (some ⟨rb, 0, none⟩), .agg #[.int .i64 5, .int .i64 x.job, .string ⟨⟨x.tn⟩⟩, .int .i64 x.pr]] w (StR w0 pb rb (N + 1)) := by
  have hF := h.few
  have H0 : Hid (Q2 w0 (opW w 5 x) (XO w x) pb rb D D N) := opW_q h 5 x
  have HL : Hid (∀ W j p s, Calls Try.prog 20 #[.agg #[.int .i64 j, .string s, .int .i64 p]] W fun e w' => e = .returned (.agg #[.int .i64 j, .string s, .int .i64 p]) ∧ Hid (Below W.heap.size W w')) := fun W j p s => plain_any W j p s
  have SS : Hid (∀ W D D' N, Q2 w0 W (XO w x) pb rb D D' N → W.cell? ⟨w.heap.size + 1, 0, none⟩ = some (.int .i64 x.job) ∧ W.cell? ⟨w.heap.size + 1, 1, none⟩ = some (.string ⟨⟨x.tn⟩⟩) ∧ W.cell? ⟨w.heap.size + 1, 2, none⟩ = some (.int .i64 x.pr) ∧ w.heap.size + 1 < W.heap.size) := fun W D D' N h => q_cells h
  obtain ⟨ln, hln⟩ : ∃ ln, ln = (tens D).length := ⟨_, rfl⟩
  have hln1 : ln ≤ 1000000 := by have := tens_le D; omega
  have HA : Hid (∀ W, Q2 w0 W (XO w x) pb rb D D N → Calls Try.prog 17 #[.pointer (some ⟨pb, 0, none⟩)] W fun e w' => ∃ m p l c, e = .returned (.tuple #[.int .i64 m, .slice p l c]) ∧ Hid (IsBest D m ∧ l ≤ 1000000 ∧ SR W.heap.size w' (.slice p l c) (tops D (tens D) m) ∧ Below W.heap.size W w')) := fun W h => (q_top h).mono fun e w' ⟨m, p, l, c, he, h1⟩ => ⟨m, p, l, c, he, h1.out.1, by have := h1.out.2.1.len; have := List.length_filter_le (fun t => decide (hdP D t = m)) (tens D); unfold tops at *; omega, h1.out.2⟩
  have HB : Hid (∀ W m, IsBest D m → Q2 w0 W (XO w x) pb rb D D N → Calls Try.prog 26 #[.pointer (some ⟨rb, 0, none⟩)] W fun e w' => ∃ p l c, e = .returned (.tuple #[.int .i64 m, .slice p l c]) ∧ Hid (SR W.heap.size w' (.slice p l c) (tops D (tens D) m) ∧ Below W.heap.size W w')) := fun W m hm h => (q_rtop h hF.1 (by omega)).mono fun e w' ⟨m', p, l, c, he, h1⟩ => by obtain rfl := h1.out.1.one hm; exact ⟨p, l, c, he, h1.out.2⟩
  have HC : Hid (∀ W, Q2 w0 W (XO w x) pb rb D D N → Calls Try.prog 13 #[.pointer (some ⟨pb, 0, none⟩)] W fun e w' => ∃ p c, e = .returned (.slice p ln c) ∧ Hid (SR W.heap.size w' (.slice p ln c) (tens D) ∧ Below W.heap.size W w')) := fun W h => by rw [hln]; exact q_tens h
  have HD : Hid (∀ W, Q2 w0 W (XO w x) pb rb D D N → Calls Try.prog 28 #[.pointer (some ⟨rb, 0, none⟩)] W fun e w' => ∃ p c, e = .returned (.slice p ln c) ∧ Hid (SR W.heap.size w' (.slice p ln c) (tens D) ∧ Below W.heap.size W w')) := fun W h => by rw [hln]; exact q_rtens h hF.1 (by omega)
  have HS : Hid (∀ W b1 b2 q1 q2 n c1 c2 L, n ≤ 1000000 → SR b1 W (.slice q1 n c1) L → SR b2 W (.slice q2 n c2) L → Calls Try.prog 27 #[.slice q1 n c1, .slice q2 n c2] W fun e w' => e = .returned (.bool true) ∧ Hid (Below W.heap.size W w')) := fun W b1 b2 q1 q2 n c1 c2 L hn h1 h2 => rsame_raw W n c1 c2 b1 b2 q1 q2 L h1 h2 hn
  have hln2 : Hid (ln ≤ 1000000) := hln1
  clear hln hln1
  clear hF h
  go_enter Try.func10, Try.ntmps10
  go_upto_region 16 with fail
  generalize hW : (w.alloc (.cells #[.int .i64 5, .int .i64 x.job, .string ⟨⟨x.tn⟩⟩, .int .i64 x.pr] 34)).alloc (.cells #[.int .i64 x.job, .string ⟨⟨x.tn⟩⟩, .int .i64 x.pr] 32) = W0
  have H1 : Hid (Q2 w0 W0 (XO w x) pb rb D D N) := by subst hW; exact H0.out
  clear hW H0
  generalize XO w x = X at *
  generalize w.heap.size + 1 = b7 at *
  have zz := SS.out _ _ _ _ H1.out
  clear zz HL SS
  go_upto_region 17 with (go_at_call 17; refine (HA.out _ H1.out).mono ?_; rintro e w1 ⟨m, p1, l1, c1, rfl, h1⟩)
  have H2 : Hid (Q2 w0 w1 X pb rb D D N) := H1.out.below h1.out.2.2.2
  clear HA H1
  go_upto_region 18 with (go_at_call 26; refine (HB.out _ m h1.out.1 H2.out).mono ?_; rintro e w2 ⟨p2, l2, c2, rfl, h2⟩)
  have H3 : Hid (Q2 w0 w2 X pb rb D D N) := H2.out.below h2.out.2
  obtain rfl : l2 = l1 := by rw [h2.out.1.len, h1.out.2.2.1.len]
  have R1 : Hid (SR W0.heap.size w2 (.slice p1 l2 c1) (tops D (tens D) m) ∧ SR w1.heap.size w2 (.slice p2 l2 c2) (tops D (tens D) m) ∧ l2 ≤ 1000000) := ⟨h1.out.2.2.1.below h2.out.2, h2.out.1, h1.out.2.1⟩
  have X27 := HS.out w2 _ _ p1 p2 l2 c1 c2 _ R1.out.2.2 R1.out.1 R1.out.2.1
  clear HB H2 h1 h2 R1
  go_wp2_with (first
    | (go_at_call 13; refine (HC.out _ H4.out).mono ?_; rintro e w4 ⟨p4, c4, rfl, h4⟩; have H5 : Hid (Q2 w0 w4 X pb rb D D N) := H4.out.below h4.out.2)
    | (go_at_call 28; refine (HD.out _ H5.out).mono ?_; rintro e w5 ⟨p5, c5, rfl, h5⟩; have H6 : Hid (Q2 w0 w5 X pb rb D D N) := H5.out.below h5.out.2)
    | (go_at_call 27; have _ := h5; refine (HS.out _ _ _ _ _ _ _ _ _ hln2.out (h4.out.1.below h5.out.2) h5.out.1).mono ?_; rintro e w6 ⟨rfl, h6⟩)
    | (go_at_call 27; refine X27.mono ?_; rintro e w3 ⟨rfl, h3⟩; have H4 : Hid (Q2 w0 w3 X pb rb D D N) := H3.out.below h3.out))
  go_ret
  exact ⟨by simp, D, ((H6.out.below h6.out).drop fun k o e => by cases e).more (Nat.le_succ _)⟩
set_option maxHeartbeats 2000000 in
set_option maxRecDepth 100000 in
theorem step0 (h : Q2 w0 w NX pb rb D D N) (x : J) (k : Int) (k1 : ¬ k = 1) (k2 : ¬ k = 2) (k3 : ¬ k = 3) (k4 : ¬ k = 4) (k5 : ¬ k = 5) :
    Calls Try.prog 10 #[.pointer (some ⟨pb, 0, none⟩), .pointer (some ⟨rb, 0, none⟩), .agg #[.int .i64 k, .int .i64 x.job, .string ⟨⟨x.tn⟩⟩, .int .i64 x.pr]] w (StR w0 pb rb (N + 1)) := by
  have H0 : Hid (Q2 w0 (opW w k x) (XO w x) pb rb D D N) := opW_q h k x
  clear h
  have g1 : (k == 1) = false := by simpa using k1
  have g2 : (k == 2) = false := by simpa using k2
  have g3 : (k == 3) = false := by simpa using k3
  have g4 : (k == 4) = false := by simpa using k4
  have g5 : (k == 5) = false := by simpa using k5
  go_enter Try.func10, Try.ntmps10
  go_wp2_with fail
  go_ret
  exact ⟨rfl, D, (H0.out.drop fun k o e => by cases e).more (Nat.le_succ _)⟩
theorem step_any (h : Q2 w0 w NX pb rb D D N) (k : Int) (x : J) (hx : wf x.job) (hz : x.tn.length ≤ 281474976710656) (hN : N < 1048576) :
    Calls Try.prog 10 #[.pointer (some ⟨pb, 0, none⟩), .pointer (some ⟨rb, 0, none⟩), .agg #[.int .i64 k, .int .i64 x.job, .string ⟨⟨x.tn⟩⟩, .int .i64 x.pr]] w (StR w0 pb rb (N + 1)) := by
  by_cases h1 : k = 1
  · rw [h1]; exact step1 h x hz hN
  by_cases h2 : k = 2
  · rw [h2]; exact step2 h x hx
  by_cases h3 : k = 3
  · rw [h3]; exact step3 h x hx
  by_cases h4 : k = 4
  · rw [h4]; exact step4 h x hz
  by_cases h5 : k = 5
  · rw [h5]; exact step5 h x
  exact step0 h x k h1 h2 h3 h4 h5
end
end Go.Proofs.Ythlbeofonbbbdaa

namespace Go.Proofs.Ythlbeofonbbbdaa
open Go.RowKit Go.Maps Go.WideMaps
/-- a script's call -/
structure Opr where
  k : Int
  x : J
def Opr.cs (o : Opr) : List Value := [.int .i64 o.k, .int .i64 o.x.job, .string ⟨⟨o.x.tn⟩⟩, .int .i64 o.x.pr]
/-- a script as an argument -/
def OArg (w : World) (q : Option Addr) (L : List Opr) : Prop := ∀ (i : Nat) (o : Opr), L[i]? = some o → (∃ g f, q = some ⟨g, f, none⟩ ∧ w.cell? ⟨g, f + i * 4, none⟩ = some (.int .i64 o.k) ∧ w.cell? ⟨g, f + i * 4 + 1, none⟩ = some (.int .i64 o.x.job) ∧ w.cell? ⟨g, f + i * 4 + 2, none⟩ = some (.string ⟨⟨o.x.tn⟩⟩) ∧ w.cell? ⟨g, f + i * 4 + 3, none⟩ = some (.int .i64 o.x.pr)) ∧ wf o.x.job ∧ o.x.tn.length ≤ 281474976710656
theorem q2_new {w w1 : World} (b : Below w.heap.size w w1) : Q2 w ((w1.alloc (.cells #[.map none, .map none] 54 (0, 0))).alloc (.cells #[.slice none 0 0] 29 (0, 0))) NX w1.heap.size (w1.heap.size + 1) [] [] 0 := by
  have b1 : Below w1.heap.size w1 (w1.alloc (.cells #[.map none, .map none] 54 (0, 0))) := (Below.refl _ _).alloc (Nat.le_refl _) _
  have b2 : Below (w1.alloc (.cells #[.map none, .map none] 54 (0, 0))).heap.size (w1.alloc (.cells #[.map none, .map none] 54 (0, 0))) ((w1.alloc (.cells #[.map none, .map none] 54 (0, 0))).alloc (.cells #[.slice none 0 0] 29 (0, 0))) := (Below.refl _ _).alloc (Nat.le_refl _) _
  have hq : Que (w1.alloc (.cells #[.map none, .map none] 54 (0, 0))) (· = w1.heap.size) w1.heap.size [] 0 := que_zero new0 0
  have n2 := new0 (w := w1.alloc (.cells #[.map none, .map none] 54 (0, 0))) (o := .cells #[.slice none 0 0] 29 (0, 0))
  rw [World.size_alloc] at n2
  have hb := b.size
  have hr : Rfq ((w1.alloc (.cells #[.map none, .map none] 54 (0, 0))).alloc (.cells #[.slice none 0 0] 29 (0, 0))) (· = w1.heap.size + 1) (w1.heap.size + 1) [] := ⟨none, 0, 0, n2, GRow.nil _ _ _ _ _, rfl, (fun g h => by cases h), fun k hk => by rw [show k = w1.heap.size + 1 from hk]; exact (Array.getElem?_eq_some_iff.1 n2).1⟩
  refine ⟨(b.alloc b.size _).alloc (by rw [World.size_alloc]; omega) _, ⟨_, _, hq.keepB b2, hr, fun k hk => ?_, fun k hk => ?_⟩, fun k o e => (by cases e), fun _ h => nomatch h⟩
  · have hk' : k = w1.heap.size := hk
    exact ⟨by omega, rfl, fun q => by have q' : k = w1.heap.size + 1 := q; omega⟩
  · have hk' : k = w1.heap.size + 1 := hk
    exact ⟨by omega, rfl⟩
/-- behind a step -/
def StQ (w0 : World) (pb rb N : Nat) (m : Nat) (w' : World) : Prop := (∃ D, Q2 w0 w' NX pb rb D D N) ∧ Calls Try.prog 11 #[.pointer (some ⟨pb, 0, none⟩)] w' fun e w2 => e = .returned (.int .i64 m) ∧ w2 = w'
theorem step_q {w0 w : World} {pb rb N : Nat} {D : List J} (h : Q2 w0 w NX pb rb D D N) (k : Int) (x : J) (hx : wf x.job) (hz : x.tn.length ≤ 281474976710656) (hN : N < 1048576) :
    Calls Try.prog 10 #[.pointer (some ⟨pb, 0, none⟩), .pointer (some ⟨rb, 0, none⟩), .agg #[.int .i64 k, .int .i64 x.job, .string ⟨⟨x.tn⟩⟩, .int .i64 x.pr]] w fun e w' => e = .returned (.bool true) ∧ ∃ (m : Nat) (q : Option Addr) (c : Nat), w'.cell? ⟨rb, 0, none⟩ = some (.slice q m c) ∧ rb < w'.heap.size ∧ Hid (StQ w0 pb rb (N + 1) m w' ∧ Below w0.heap.size w0 w') := by
  refine (step_any h k x hx hz hN).mono fun e w' ⟨he, h1⟩ => ⟨he, ?_⟩
  obtain ⟨D1, h1⟩ := h1.out
  obtain ⟨q, c, h2, h3⟩ := q_box h1
  exact ⟨D1.length, q, c, h2, h3, ⟨⟨D1, h1⟩, q_len h1⟩, h1.bel⟩
set_option maxHeartbeats 8000000 in
set_option maxRecDepth 100000 in
theorem plays_law (q : Option Addr) (n c : Nat) (L : List Opr) (w : World) (hn : n = L.length) (hr : OArg w q L) (hm : n ≤ 9223372036854775807) :
    Calls Try.prog 3 #[.slice q n c] w fun e w' => e = .returned (.bool true) ∧ Below w.heap.size w w' := by
  have HA : Hid (∀ W, Calls Try.prog 8 #[] W fun e w' => e = .returned (.bool true) ∧ Hid (Below W.heap.size W w')) := awakeQ
  have HN : Hid (∀ W, Calls Try.prog 9 #[] W fun e w' => e = .returned (.pointer (some ⟨W.heap.size, 0, none⟩)) ∧ w' = W.alloc (.cells #[.map none, .map none] 54 (0, 0))) := newQ_any
  have HR : Hid (OArg w q L ∧ n = L.length) := ⟨hr, hn⟩
  clear hr hn
  by_cases h20 : 500 < n
  · have g1 : (500 : Int) < (n : Int) := by omega
    have g2 : decide ((500 : Int) < (n : Int)) = true := decide_eq_true g1
    clear HN HR
    go_enter Try.func3, Try.ntmps3
    go_wp2_with (first
      | (go_at_call 8; have _ := b1; refine (HA.out _).mono ?_; rintro e w3 ⟨rfl, b3⟩)
      | (go_at_call 8; refine (HA.out _).mono ?_; rintro e w1 ⟨rfl, b1⟩))
    go_ret
    exact ⟨rfl, b1.out.trans (b3.out.mono b1.out.size)⟩
  have g20 : ¬ (500 : Int) < (n : Int) := by omega
  have g20' : decide ((500 : Int) < (n : Int)) = false := decide_eq_false g20
  have h500 : n ≤ 500 := by omega
  clear hm
  go_enter Try.func3, Try.ntmps3
  go_upto_region 3 with (go_at_call 8; refine (HA.out _).mono ?_; rintro e w1 ⟨rfl, b1⟩)
  clear HA
  go_upto_region 5 with (go_at_call 9; refine (HN.out _).mono ?_; rintro e W0 ⟨rfl, h3⟩; obtain rfl := h3.symm)
  have HL0 : Hid (Q2 w ((w1.alloc (.cells #[.map none, .map none] 54 (0, 0))).alloc (.cells #[.slice none 0 0] 29 (0, 0))) NX w1.heap.size (w1.heap.size + 1) [] [] 0) := q2_new b1.out
  clear HN b1 h20 g20' g20 h3
  generalize (w1.alloc (.cells #[.map none, .map none] 54 (0, 0))).alloc (.cells #[.slice none 0 0] 29 (0, 0)) = W0 at *
  generalize w1.heap.size + 1 = rb at *
  generalize w1.heap.size = pb at *
  go_wp2_with fail
  go_loopw [5] (fun x wr => ∃ i : Nat, x = .int .i64 i ∧ i ≤ n ∧ Hid (∃ D, Q2 w wr NX pb rb D D i)) (fun x _ => n - (intOf x).toNat)
  case atStart => exact ⟨0, rfl, Nat.zero_le _, _, HL0.out⟩
  case round =>
    obtain ⟨i, rfl, hin, HI⟩ := hrel
    clear HL0
    by_cases hi : i < n
    · have i1 : (i : Int) < (n : Int) := by omega
      have i2 : decide ((i : Int) < (n : Int)) = true := decide_eq_true i1
      obtain ⟨o, ho⟩ : ∃ o, L[i]? = some o := ⟨_, List.getElem?_eq_getElem (by have := HR.out.2; omega)⟩
      obtain ⟨D, hD⟩ := HI.out
      obtain ⟨⟨g, f, rfl, d0, d1, d2, d3⟩, hx, hz⟩ := HR.out.1 i o ho
      have BX := step_q (hD.below (below_drewN (Below.refl _ wr) 1)) o.k o.x hx hz (by omega)
      have SS : Hid (∀ W, Below w.heap.size w W → W.cell? ⟨g, f + i * 4, none⟩ = some (.int .i64 o.k) ∧ W.cell? ⟨g, f + i * 4 + 1, none⟩ = some (.int .i64 o.x.job) ∧ W.cell? ⟨g, f + i * 4 + 2, none⟩ = some (.string ⟨⟨o.x.tn⟩⟩) ∧ W.cell? ⟨g, f + i * 4 + 3, none⟩ = some (.int .i64 o.x.pr)) := fun W b => ⟨keep1c' b d0, keep1c' b d1, keep1c' b d2, keep1c' b d3⟩
      have zz := SS.out _ hD.bel
      have zd := SS.out (wr.drewN 1) (below_drewN hD.bel 1)
      clear hD HI d0 d1 d2 d3 hx hz ho HR
      obtain ⟨ok, ⟨oj, ot, op⟩⟩ := o
      simp only [] at zz zd SS BX
      go_upto_region 8 with fail
      go_region_with (first
        | (go_at_call 10; refine BX.mono ?_; rintro e w3 ⟨rfl, m, q3, c3, hc3, hl3, h3⟩)
        | (go_at_call 11; refine h3.out.1.2.mono ?_; rintro e w4 ⟨rfl, rfl⟩))
      all_goals go_wp2_with fail
      all_goals exact ⟨⟨i + 1, by simp, by omega, h3.out.1.1⟩, by simp only [intOf]; omega⟩
    · have i1 : ¬ (i : Int) < (n : Int) := by omega
      have i2 : decide ((i : Int) < (n : Int)) = false := decide_eq_false i1
      obtain ⟨D, hD⟩ := HI.out
      have BX : Hid (Calls Try.prog 10 #[.pointer (some ⟨pb, 0, none⟩), .pointer (some ⟨rb, 0, none⟩), .agg #[.int .i64 5, .int .i64 0, .string ⟨#[]⟩, .int .i64 0]] wr fun e w' => e = .returned (.bool true) ∧ Hid (Below w.heap.size w w')) := (step_any hD 5 ⟨0, [], 0⟩ (by decide) (by decide) (by omega)).mono fun e w' ⟨he, h1⟩ => ⟨he, by obtain ⟨D1, h1⟩ := h1.out; exact h1.bel⟩
      clear hD HI HR
      go_wp2_with (go_at_call 10; refine BX.out.mono ?_; rintro e w3 ⟨rfl, h3⟩)
      go_ret
      exact ⟨rfl, h3.out⟩
end Go.Proofs.Ythlbeofonbbbdaa

namespace Go.Proofs.Ythlbeofonbbbdaa
open Go.ChangeShapes Go.WideShapes Go.ChangeAt Go.RowKit

theorem cellsOf3 : Try.prog.cellsOf 3 = 1 := by kernel_rfl
theorem cellsOf34 : Try.prog.cellsOf 34 = 4 := by kernel_rfl
theorem len4 {l : List Value} (h : l.length = 4) : ∃ c0 c1 c2 c3, l = [c0, c1, c2, c3] := by
  match l, h with
  | [c0, c1, c2, c3], _ => exact ⟨c0, c1, c2, c3, rfl⟩
section
variable {H : Type} {enc : TypeId × Value → H} {W : World} {base : Nat} {spare : Nat → Bool} {held : Bool}
theorem trod_struct2' {P : Program} {t : TypeId} {f0 f1 : Field} {fuel : Nat} {cs : List Value} {x : DataW H × List MemPlace} (ht : P.underlying t = some (.struct #[f0, f1])) (h : DataW.trod enc P W base spare held fuel t cs = some x) :
    ∃ y0 y1 n, x.1 = .agg [y0.1, y1.1] ∧ cs.length = P.cellsOf t ∧ DataW.trod enc P W base spare held n f0.type ((cs.drop f0.offset).take (P.cellsOf f0.type)) = some y0 ∧ DataW.trod enc P W base spare held n f1.type ((cs.drop f1.offset).take (P.cellsOf f1.type)) = some y1 := by
  obtain ⟨xs, n, _, rfl, hl, hlen, hf⟩ := DataW.trod_struct ht h
  match xs, hlen with
  | [y0, y1], _ => exact ⟨y0, y1, n, rfl, hl, by simpa using hf 0 f0 rfl, by simpa using hf 1 f1 rfl⟩
set_option maxRecDepth 100000 in
theorem elem34 {fuel : Nat} {cs : List Value} {x : DataW H × List MemPlace} (h : DataW.trod enc Try.prog W base spare held fuel 34 cs = some x) : ∃ o : Opr, cs = o.cs ∧ wf o.x.job ∧ (Wt 34 x.1 → o.x.tn.length ≤ 281474976710656) := by
  obtain ⟨y0, y1, n, hx, hl, h0, h1⟩ := trod_struct2' Try.underlying34 h
  rw [cellsOf34] at hl
  obtain ⟨c0, c1, c2, c3, rfl⟩ := len4 hl
  simp only [List.drop_zero, List.drop_succ_cons, cellsOf3, cellsOf32, List.take_succ_cons, List.take_zero] at h0 h1
  obtain ⟨n0, e0, _, _⟩ := DataW.trod_int Try.underlying3 h0
  obtain ⟨o, e1, w1, _, h3⟩ := elem32 h1
  simp only [List.cons.injEq, and_true] at e0 e1
  obtain ⟨e1, e2, e3⟩ := e1
  refine ⟨⟨n0, o⟩, by rw [e0, e1, e2, e3]; rfl, w1, fun hw => ?_⟩
  rw [hx] at hw
  exact h3 (Wt.field (j := 1) hw Try.underlying34 rfl rfl)
set_option maxRecDepth 100000 in
theorem open_script {v : Value} {x : DataW H} {p : List MemPlace} {r : Reach} {b0 : Nat} (hv : Value.okWide Try.prog W r b0 22 v) (h : DataW.Trod enc Try.prog W base spare held 22 v x p) :
    ∃ (q : Option Addr) (c : Nat) (L : List Opr), v = .slice q L.length c ∧ (Wt 22 x → OArg W q L) ∧ L.length ≤ maxLen := by
  obtain ⟨a0, len, cap, rfl⟩ := okWide_slice Try.underlying22 hv
  obtain ⟨fuel, hf⟩ := h
  obtain ⟨q, c, L, h1, h2, h3, h4, h5⟩ := open_list (x := (x, p)) Try.underlying22 Opr.cs (fun _ => rfl) cellsOf34 (by decide) (fun o d => wf o.x.job ∧ (Wt 34 d → o.x.tn.length ≤ 281474976710656)) (fun n cs x h => elem34 h) (show DataW.trod enc Try.prog W base spare held fuel 22 [.slice a0 len cap] = some (x, p) from hf)
  refine ⟨q, c, L, h1, fun hw i o ho => ?_, h5⟩
  obtain ⟨d, hd, hq⟩ := h4 o (List.mem_of_getElem? ho)
  refine ⟨?_, hd.1, hd.2 (hq hw)⟩
  obtain ⟨g, a, rfl, hk⟩ := lies_at (f := Opr.cs) (sz := 4) (fun _ => rfl) (by decide) h2 ho
  exact ⟨g, a, rfl, hk 0 _ rfl, hk 1 _ rfl, hk 2 _ rfl, hk 3 _ rfl⟩
end
end Go.Proofs.Ythlbeofonbbbdaa
