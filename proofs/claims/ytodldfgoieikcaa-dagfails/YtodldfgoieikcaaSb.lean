/-
  The law's step: a call on both graphs.
-/
import Derived.Test.YtodldfgoieikcaaRj
import Derived.Lib.QuietBelow
namespace Go.Proofs.Ytodldfgoieikcaa
open Go.RowKit Go.Maps Go.Sort

theorem DoneR.uniq {g : GS} {x : Int} {E F : List Int} {e f : Int} {g1 g2 : GS} (h : DoneR g x E e g1) (k : DoneR g x F f g2) : E = F ∧ e = f ∧ g1 = g2 := by
  have key : ∀ {i j : Nat}, x = i → x = j → i = j := fun h1 h2 => by omega
  cases h with
  | none h1 =>
    cases k with
    | none => exact ⟨rfl, rfl, rfl⟩
    | state i k1 k2 k3 k4 => rw [hasB_iff.2 ⟨i, k1, k2, k3, k4⟩] at h1; cases h1
    | ok i k1 k2 k3 k4 => rw [hasB_iff.2 ⟨i, k1, k2, k3, by rw [(frB_iff.1 k4).1]; omega⟩] at h1; cases h1
  | state i h1 h2 h3 h4 h5 =>
    cases k with
    | none k1 => rw [hasB_iff.2 ⟨i, h1, h2, h3, h4⟩] at k1; cases k1
    | state j k1 k2 k3 k4 => exact ⟨rfl, rfl, rfl⟩
    | ok j k1 k2 k3 k4 => rw [key k1 h1, h5] at k4; cases k4
  | ok i h1 h2 h3 h4 =>
    cases k with
    | none k1 => rw [hasB_iff.2 ⟨i, h1, h2, h3, by rw [(frB_iff.1 h4).1]; omega⟩] at k1; cases k1
    | state j k1 k2 k3 k4 k5 => rw [key k1 h1, h4] at k5; cases k5
    | ok j k1 k2 k3 k4 => rw [key k1 h1]; exact ⟨rfl, rfl, rfl⟩
theorem FailR.uniq {g : GS} {x : Int} {E F : List Int} {e f : Int} {g1 g2 : GS} (h : FailR g x E e g1) (k : FailR g x F f g2) : E = F ∧ e = f ∧ g1 = g2 := by
  have key : ∀ {i j : Nat}, x = i → x = j → i = j := fun h1 h2 => by omega
  cases h with
  | none h1 =>
    cases k with
    | none => exact ⟨rfl, rfl, rfl⟩
    | state i k1 k2 k3 k4 => rw [hasB_iff.2 ⟨i, k1, k2, k3, k4⟩] at h1; cases h1
    | ok i f' k1 k2 k3 k4 => rw [hasB_iff.2 ⟨i, k1, k2, k3, by omega⟩] at h1; cases h1
  | state i h1 h2 h3 h4 h5 =>
    cases k with
    | none k1 => rw [hasB_iff.2 ⟨i, h1, h2, h3, h4⟩] at k1; cases k1
    | state j k1 k2 k3 k4 => exact ⟨rfl, rfl, rfl⟩
    | ok j f' k1 k2 k3 k4 => rw [key k1 h1] at k4; exact absurd k4 h5
  | ok i f1 h1 h2 h3 h4 h5 =>
    cases k with
    | none k1 => rw [hasB_iff.2 ⟨i, h1, h2, h3, by omega⟩] at k1; cases k1
    | state j k1 k2 k3 k4 k5 => rw [key k1 h1] at k5; exact absurd h4 k5
    | ok j f2 k1 k2 k3 k4 k5 =>
      have e : j = i := key k1 h1
      subst e
      have : f1 = f2 := by
        funext n
        have q : f1 n = true ↔ f2 n = true := (h5 n).trans (k5 n).symm
        cases e1 : f1 n <;> cases e2 : f2 n <;> simp_all
      subst this
      exact ⟨rfl, rfl, rfl⟩
/-- both graphs, whatever they hold -/
def Bi (w0 w : World) (bs gb rb : Nat) : Prop := ∃ g v R, Bo w0 w bs gb rb g v R ∧ Inv g
abbrev opA (kd x : Int) (p : Option Addr) (n c : Nat) : Value := .agg #[.int .i64 kd, .int .i64 x, .slice p n c]
abbrev opB (kd x : Int) (p : Option Addr) (n c : Nat) : Obj := .cells #[.int .i64 kd, .int .i64 x, .slice p n c] 34 (0, 0)
theorem o3 {w : World} {b : Nat} {kd x : Int} {p : Option Addr} {n c : Nat} (h : w.heap[b]? = some (opB kd x p n c)) : w.cell? ⟨b, 0, none⟩ = some (.int .i64 kd) ∧ w.cell? ⟨b, 1, none⟩ = some (.int .i64 x) ∧ w.cell? ⟨b, 2, none⟩ = some (.slice p n c) := by
  unfold World.cell?
  rw [h]
  simp
theorem kp_box {w w1 : World} {gb bx : Nat} {g : GS} {o : Array Value} (h : Gr w gb g) (k : Kp (fun k => k = gb) w w1) (hb : w.heap[bx]? = some (.cells o 34 (0, 0))) : w1.heap[bx]? = some (.cells o 34 (0, 0)) :=
  (k.block bx (Array.getElem?_eq_some_iff.1 hb).1 (h.typ hb (by decide))).trans hb
theorem rb_type {w : World} {bs rb k t : Nat} {v : Value} {R : List JB} {cur : Array Value} (h : Rm w bs rb v R) (hk : w.heap[k]? = some (.cells cur t (0, 0))) (h1 : t ≠ 30) (h2 : t ≠ 60) : ¬ Rb rb v k := fun q => by
  rcases q with rfl | q
  · have := h.c
    rw [hk] at this
    injection this with this
    injection this with _ q
    exact h1 q
  · rcases h.r.2 with ⟨e0, _⟩ | ⟨g', cap, cur', e0, _, hgg, _⟩
    · rw [e0] at q; cases q
    · rw [e0] at q
      have e : g' = k := by injection q
      rw [e, hk] at hgg
      injection hgg with hgg
      injection hgg with _ q
      exact h2 q
theorem two_out {w0 W : World} {bs gb rb bx : Nat} {g : GS} {v : Value} {R : List JB} {F G : FuncId} {x : Int} {P : List Int → Int → GS → Prop} {kd : Int} {p0 : Option Addr} {n0 c0 : Nat}
    (hP : ∀ E F e f g1 g2, P E e g1 → P F f g2 → E = F ∧ e = f ∧ g1 = g2) (hI : ∀ E e g', P E e g' → Inv g') (h : Bo w0 W bs gb rb g v R) (hbx : W.heap[bx]? = some (opB kd x p0 n0 c0))
    (hF : Calls Try.prog F #[.pointer (some ⟨gb, 0, none⟩), .int .i64 x] W fun e w' => ∃ (p : Option Addr) (n c : Nat) (er : Int), e = .returned (.tuple #[.slice p n c, .int .i64 er]) ∧ n ≤ 101 ∧ Hid (OutP W w' gb P (.slice p n c) n er))
    (hG : ∀ w1, Rm w1 bs rb v R → Calls Try.prog G #[.pointer (some ⟨rb, 0, none⟩), .int .i64 x] w1 fun e w' => ∃ (p : Option Addr) (n c : Nat) (er : Int), e = .returned (.tuple #[.slice p n c, .int .i64 er]) ∧ n ≤ 101 ∧ ∃ E g' R', P E er g' ∧ n = E.length ∧ AI w' p E ∧ Rm w' bs rb v R' ∧ Rel g' R' ∧ Kp (Rb rb v) w1 w') :
    Calls Try.prog F #[.pointer (some ⟨gb, 0, none⟩), .int .i64 x] W fun e w1 => ∃ (p : Option Addr) (n c : Nat) (er : Int), e = .returned (.tuple #[.slice p n c, .int .i64 er]) ∧ w1.cell? ⟨bx, 1, none⟩ = some (.int .i64 x) ∧ Hid (Calls Try.prog G #[.pointer (some ⟨rb, 0, none⟩), .int .i64 x] w1 fun e w2 => ∃ (p2 : Option Addr) (c2 : Nat), e = .returned (.tuple #[.slice p2 n c2, .int .i64 er]) ∧ Hid (Calls Try.prog 21 #[.slice p n c, .slice p2 n c2] w2 fun e w3 => e = .returned (.bool true) ∧ Hid (Bi w0 w3 bs gb rb))) := by
  refine hF.mono ?_
  rintro e w1 ⟨p, n, c, er, rfl, hn, E, g', h1, h2, h3, h4, h5⟩
  have hB := h.prog h5 h4
  refine ⟨p, n, c, er, rfl, (o3 (kp_box h.gr h5 hbx)).2.1, (hG w1 hB.rm).mono ?_⟩
  rintro e w2 ⟨p2, n2, c2, er2, rfl, hn2, E2, g2, R2, k1, k2, k3, k4, k5, k6⟩
  obtain ⟨rfl, rfl, rfl⟩ := hP _ _ _ _ _ _ h1 k1
  have e : n2 = n := by omega
  subst e
  have hr : IRow W.heap.size w2 (.slice p n2 c) E := h3.keep fun k e => k6.block k (h3.lt e) (by
    rcases h3.2 with ⟨e0, _⟩ | ⟨g', cap, cur, e0, _, hgg, _⟩
    · rw [e0] at e; cases e
    · rw [e0] at e
      have e' : g' = k := by injection e
      subst e'
      exact rb_type hB.rm hgg (by decide) (by decide))
  refine ⟨p2, c2, rfl, (same_any w2 p p2 n2 c c2 E h2 hr.ai k3 (by omega)).mono ?_⟩
  rintro e w3 ⟨rfl, b3⟩
  exact ⟨rfl, _, _, _, (hB.ref k6 k4 k5).grow b3, hI _ _ _ h1⟩
def StP (w0 w : World) (bs gb rb : Nat) (kd x : Int) (p : Option Addr) (n c : Nat) : Prop := Calls Try.prog 12 #[.pointer (some ⟨gb, 0, none⟩), .pointer (some ⟨rb, 0, none⟩), opA kd x p n c] w fun e w' => e = .returned (.bool true) ∧ Hid (Bi w0 w' bs gb rb)
section
variable {w0 w : World} {bs gb rb : Nat}
set_option maxHeartbeats 1000000 in
theorem st_add (h : Bi w0 w bs gb rb) (x : Int) (p : Option Addr) (n c : Nat) (E : List Int) (hn : n = E.length) (hE : AI w0 p E) (h9 : n ≤ 300) : StP w0 w bs gb rb 1 x p n c := by
  unfold StP
  obtain ⟨g, v, R, hB0, hI⟩ := h
  obtain ⟨W, hW⟩ : ∃ W, W = w.alloc (opB 1 x p n c) := ⟨_, rfl⟩
  have hB : Bo w0 W bs gb rb g v R := by rw [hW]; exact hB0.grow ((Below.refl _ w).alloc (Nat.le_refl _) _)
  have hbx : W.heap[w.heap.size]? = some (opB 1 x p n c) := by rw [hW]; exact new0
  have H15 : Hid (Calls Try.prog 15 #[.pointer (some ⟨gb, 0, none⟩), .int .i64 x, .slice p n c] W fun e w1 => ∃ a er, e = .returned (.tuple #[.bool a, .int .i64 er]) ∧ (w1.cell? ⟨w.heap.size, 1, none⟩ = some (.int .i64 x) ∧ w1.cell? ⟨w.heap.size, 2, none⟩ = some (.slice p n c)) ∧ Hid (Calls Try.prog 20 #[.pointer (some ⟨rb, 0, none⟩), .int .i64 x, .slice p n c] w1 fun e w2 => e = .returned (.tuple #[.bool a, .int .i64 er]) ∧ Hid (Bi w0 w2 bs gb rb))) := by
    refine (add_any hB.gr x p n c E hn (hE.below hB.bl) (by omega)).mono ?_
    rintro e w1 ⟨a, er, rfl, g', h1, h2, h3⟩
    have hB1 := hB.prog h3 h2
    refine ⟨a, er, rfl, (o3 (kp_box hB.gr h3 hbx)).2, (radd_any hB1.rm hB1.rl hB1.sb x p n c E hn (hE.below hB1.bl) (by omega)).mono ?_⟩
    rintro e w2 ⟨a', er', rfl, g2, R2, v2, k1, k2, k3, k4⟩
    obtain ⟨rfl, rfl, rfl⟩ := h1.uniq k1
    exact ⟨rfl, _, _, _, hB1.ref k4 k2 k3, hI.add h1⟩
  obtain ⟨c0, c1, c2⟩ := o3 hbx
  clear hB0 hB hI hbx hn hE
  go_enter Try.func12, Try.ntmps12
  go_upto_region 1 with fail
  rw [← hW]
  clear hW
  go_upto_region 4 with (go_at_call 15; refine H15.out.mono ?_; rintro e w1 ⟨a, er, rfl, hc, h1⟩)
  obtain ⟨d1, d2⟩ := hc
  clear c0 c1 c2 H15
  go_wp2_with (go_at_call 20; refine h1.out.mono ?_; rintro e w2 ⟨rfl, h2⟩)
  go_ret
  exact ⟨by simp, h2⟩
set_option maxHeartbeats 1000000 in
theorem st_free (h : Bi w0 w bs gb rb) (x : Int) (p : Option Addr) (n c : Nat) : StP w0 w bs gb rb 3 x p n c := by
  unfold StP
  obtain ⟨g, v, R, hB0, hI⟩ := h
  obtain ⟨W, hW⟩ : ∃ W, W = w.alloc (opB 3 x p n c) := ⟨_, rfl⟩
  have hB : Bo w0 W bs gb rb g v R := by rw [hW]; exact hB0.grow ((Below.refl _ w).alloc (Nat.le_refl _) _)
  have HB : Hid (Bo w0 W bs gb rb g v R ∧ Inv g) := ⟨hB, hI⟩
  have hbx : W.heap[w.heap.size]? = some (opB 3 x p n c) := by rw [hW]; exact new0
  have H13 : Hid (∀ W1, Below W.heap.size W W1 → Calls Try.prog 13 #[.pointer (some ⟨gb, 0, none⟩), .int .i64 x] W1 fun e w' => e = .returned (.bool (freeB g x)) ∧ Below W1.heap.size W1 w') := fun W1 b1 => (free_any (hB.gr.grow b1) x).mono fun e w' ⟨h1, h2⟩ => ⟨h1, by rw [h2]; exact Below.refl _ _⟩
  have H14 : Hid (∀ W1, Below W.heap.size W W1 → Calls Try.prog 14 #[.pointer (some ⟨rb, 0, none⟩), .int .i64 x] W1 fun e w' => e = .returned (.bool (freeB g x)) ∧ Below W1.heap.size W1 w') := fun W1 b1 => (rfree_any (hB.rm.below b1) hB.rl x).mono fun e w' ⟨h1, h2⟩ => ⟨h1, by rw [h2]; exact Below.refl _ _⟩
  have G13 : Hid (∀ d os, Calls Try.prog 13 #[.pointer (some ⟨gb, 0, none⟩), .int .i64 x] (grow (redrawn W d) os) fun e w'' => e = .returned (.bool (freeB g x)) ∧ ∃ p : Regrown, w'' = grow (redrawn W p.d) p.os) := fun d os => Calls.regrown_of (H13.out _ (below_regrown W d os))
  have G14 : Hid (∀ d os, Calls Try.prog 14 #[.pointer (some ⟨rb, 0, none⟩), .int .i64 x] (grow (redrawn W d) os) fun e w'' => e = .returned (.bool (freeB g x)) ∧ ∃ p : Regrown, w'' = grow (redrawn W p.d) p.os) := fun d os => Calls.regrown_of (H14.out _ (below_regrown W d os))
  obtain ⟨c0, c1, c2⟩ := o3 hbx
  have m1 := cell_regrown c1
  generalize freeB g x = bt at *
  clear hB0 hB hI hbx H13 H14
  go_enter Try.func12, Try.ntmps12
  go_upto_region 1 with fail
  rw [← hW]
  clear hW
  go_upto_region 11 with fail
  refine wp_region_quiet_below (by kernel_rfl) (by kernel_rfl) ?_
  repeat (first | go_big_quiet_step (first | (go_at_call 13; exact G13.out _ _) | (go_at_call 14; exact G14.out _ _)) | quiet_step (first | (go_at_call 13; exact G13.out _ _) | (go_at_call 14; exact G14.out _ _)))
  refine wpQuiet_nil ?_
  intro _ hw'
  obtain ⟨⟨dq, osq⟩, hw''⟩ := hw'
  subst hw''
  have HZ : Hid (Bi w0 (grow (redrawn W dq) osq) bs gb rb) := ⟨g, v, R, HB.out.1.grow (below_regrown W dq osq), HB.out.2⟩
  clear c0 c1 c2 m1 G13 G14 HB
  generalize grow (redrawn W dq) osq = W4 at *
  go_wp2_with fail
  go_ret
  exact ⟨by simp, HZ⟩
set_option maxHeartbeats 1000000 in
theorem st_par (h : Bi w0 w bs gb rb) (x : Int) (p : Option Addr) (n c : Nat) : StP w0 w bs gb rb 2 x p n c := by
  unfold StP
  obtain ⟨g, v, R, hB0, hI⟩ := h
  obtain ⟨W, hW⟩ : ∃ W, W = w.alloc (opB 2 x p n c) := ⟨_, rfl⟩
  have hB : Bo w0 W bs gb rb g v R := by rw [hW]; exact hB0.grow ((Below.refl _ w).alloc (Nat.le_refl _) _)
  have hbx : W.heap[w.heap.size]? = some (opB 2 x p n c) := by rw [hW]; exact new0
  have HT : Hid (Calls Try.prog 16 #[.pointer (some ⟨gb, 0, none⟩), .int .i64 x] W fun e w1 => ∃ (p : Option Addr) (n c : Nat) (er : Int), e = .returned (.tuple #[.slice p n c, .int .i64 er]) ∧ w1.cell? ⟨w.heap.size, 1, none⟩ = some (.int .i64 x) ∧ Hid (Calls Try.prog 22 #[.pointer (some ⟨rb, 0, none⟩), .int .i64 x] w1 fun e w2 => ∃ (p2 : Option Addr) (c2 : Nat), e = .returned (.tuple #[.slice p2 n c2, .int .i64 er]) ∧ Hid (Calls Try.prog 21 #[.slice p n c, .slice p2 n c2] w2 fun e w3 => e = .returned (.bool true) ∧ Hid (Bi w0 w3 bs gb rb)))) :=
    two_out (P := ParR g x) (fun E F e f g1 g2 a b => by obtain ⟨h1, h2, h3, h4⟩ := a.uniq b; exact ⟨h1, h2, by rw [h3, h4]⟩) (fun E e g' a => by obtain ⟨_, _, h3, _⟩ := a.uniq a; rw [h3]; exact hI) hB hbx (par_any hB.gr x) fun w1 hm => (rpar_any hm hB.rl x).mono fun e w' ⟨p, n, c, er, h1, h2, h3, E, k1, k2, k3⟩ => ⟨p, n, c, er, h1, h2, E, g, R, k1, k2, by rw [h3]; exact k3, by rw [h3]; exact hm, hB.rl, by rw [h3]; exact Kp.refl _ _⟩
  obtain ⟨c0, c1, c2⟩ := o3 hbx
  clear hB0 hB hI hbx
  go_enter Try.func12, Try.ntmps12
  go_upto_region 1 with fail
  rw [← hW]
  clear hW
  go_upto_region 8 with (go_at_call 16; refine HT.out.mono ?_; rintro e w1 ⟨p1, n1, cc1, er, rfl, d1, h1⟩)
  clear c0 c1 c2 HT
  go_wp2_with (first
    | (go_at_call 22; refine h1.out.mono ?_; rintro e w2 ⟨p2, cc2, rfl, h2⟩)
    | (go_at_call 21; refine h2.out.mono ?_; rintro e w3 ⟨rfl, h3⟩))
  go_ret
  exact ⟨rfl, h3⟩
set_option maxHeartbeats 1000000 in
theorem st_done (h : Bi w0 w bs gb rb) (x : Int) (p : Option Addr) (n c : Nat) : StP w0 w bs gb rb 4 x p n c := by
  unfold StP
  obtain ⟨g, v, R, hB0, hI⟩ := h
  obtain ⟨W, hW⟩ : ∃ W, W = w.alloc (opB 4 x p n c) := ⟨_, rfl⟩
  have hB : Bo w0 W bs gb rb g v R := by rw [hW]; exact hB0.grow ((Below.refl _ w).alloc (Nat.le_refl _) _)
  have hbx : W.heap[w.heap.size]? = some (opB 4 x p n c) := by rw [hW]; exact new0
  have HT : Hid (Calls Try.prog 18 #[.pointer (some ⟨gb, 0, none⟩), .int .i64 x] W fun e w1 => ∃ (p : Option Addr) (n c : Nat) (er : Int), e = .returned (.tuple #[.slice p n c, .int .i64 er]) ∧ w1.cell? ⟨w.heap.size, 1, none⟩ = some (.int .i64 x) ∧ Hid (Calls Try.prog 23 #[.pointer (some ⟨rb, 0, none⟩), .int .i64 x] w1 fun e w2 => ∃ (p2 : Option Addr) (c2 : Nat), e = .returned (.tuple #[.slice p2 n c2, .int .i64 er]) ∧ Hid (Calls Try.prog 21 #[.slice p n c, .slice p2 n c2] w2 fun e w3 => e = .returned (.bool true) ∧ Hid (Bi w0 w3 bs gb rb)))) :=
    two_out (P := DoneR g x) (fun E F e f g1 g2 a b => a.uniq b) (fun E e g' a => hI.done a) hB hbx (done_any hB.gr x) fun w1 hm => (rdone_any hm hB.rl x).mono fun e w' ⟨p, n, c, er, h1, h2, E, g', R', k1, k2, k3, k4, k5, k6⟩ => ⟨p, n, c, er, h1, h2, E, g', R', k1, k2, k3.ai, k4, k5, k6⟩
  obtain ⟨c0, c1, c2⟩ := o3 hbx
  clear hB0 hB hI hbx
  go_enter Try.func12, Try.ntmps12
  go_upto_region 1 with fail
  rw [← hW]
  clear hW
  go_upto_region 14 with (go_at_call 18; refine HT.out.mono ?_; rintro e w1 ⟨p1, n1, cc1, er, rfl, d1, h1⟩)
  clear c0 c1 c2 HT
  go_wp2_with (first
    | (go_at_call 23; refine h1.out.mono ?_; rintro e w2 ⟨p2, cc2, rfl, h2⟩)
    | (go_at_call 21; refine h2.out.mono ?_; rintro e w3 ⟨rfl, h3⟩))
  go_ret
  exact ⟨rfl, h3⟩
set_option maxHeartbeats 1000000 in
theorem st_fail (h : Bi w0 w bs gb rb) (x : Int) (p : Option Addr) (n c : Nat) : StP w0 w bs gb rb 5 x p n c := by
  unfold StP
  obtain ⟨g, v, R, hB0, hI⟩ := h
  obtain ⟨W, hW⟩ : ∃ W, W = w.alloc (opB 5 x p n c) := ⟨_, rfl⟩
  have hB : Bo w0 W bs gb rb g v R := by rw [hW]; exact hB0.grow ((Below.refl _ w).alloc (Nat.le_refl _) _)
  have hbx : W.heap[w.heap.size]? = some (opB 5 x p n c) := by rw [hW]; exact new0
  have HT : Hid (Calls Try.prog 19 #[.pointer (some ⟨gb, 0, none⟩), .int .i64 x] W fun e w1 => ∃ (p : Option Addr) (n c : Nat) (er : Int), e = .returned (.tuple #[.slice p n c, .int .i64 er]) ∧ w1.cell? ⟨w.heap.size, 1, none⟩ = some (.int .i64 x) ∧ Hid (Calls Try.prog 24 #[.pointer (some ⟨rb, 0, none⟩), .int .i64 x] w1 fun e w2 => ∃ (p2 : Option Addr) (c2 : Nat), e = .returned (.tuple #[.slice p2 n c2, .int .i64 er]) ∧ Hid (Calls Try.prog 21 #[.slice p n c, .slice p2 n c2] w2 fun e w3 => e = .returned (.bool true) ∧ Hid (Bi w0 w3 bs gb rb)))) :=
    two_out (P := FailR g x) (fun E F e f g1 g2 a b => a.uniq b) (fun E e g' a => hI.fail a) hB hbx (fail_any hB.gr x) fun w1 hm => (rfail_any hm hB.rl hI x).mono fun e w' ⟨p, n, c, er, h1, h2, E, g', R', k1, k2, k3, k4, k5, k6⟩ => ⟨p, n, c, er, h1, h2, E, g', R', k1, k2, k3.ai, k4, k5, k6⟩
  obtain ⟨c0, c1, c2⟩ := o3 hbx
  clear hB0 hB hI hbx
  go_enter Try.func12, Try.ntmps12
  go_upto_region 1 with fail
  rw [← hW]
  clear hW
  go_upto_region 18 with (go_at_call 19; refine HT.out.mono ?_; rintro e w1 ⟨p1, n1, cc1, er, rfl, d1, h1⟩)
  clear c0 c1 c2 HT
  go_wp2_with (first
    | (go_at_call 24; refine h1.out.mono ?_; rintro e w2 ⟨p2, cc2, rfl, h2⟩)
    | (go_at_call 21; refine h2.out.mono ?_; rintro e w3 ⟨rfl, h3⟩))
  go_ret
  exact ⟨rfl, h3⟩
set_option maxHeartbeats 1000000 in
theorem st_else (h : Bi w0 w bs gb rb) (kd x : Int) (p : Option Addr) (n c : Nat) (hk : kd ≠ 1 ∧ kd ≠ 2 ∧ kd ≠ 3 ∧ kd ≠ 4 ∧ kd ≠ 5) : StP w0 w bs gb rb kd x p n c := by
  unfold StP
  obtain ⟨W, hW⟩ : ∃ W, W = w.alloc (opB kd x p n c) := ⟨_, rfl⟩
  have HZ : Hid (Bi w0 W bs gb rb) := by
    obtain ⟨g, v, R, hB0, hI⟩ := h
    show Bi w0 W bs gb rb
    rw [hW]
    exact ⟨g, v, R, hB0.grow ((Below.refl _ w).alloc (Nat.le_refl _) _), hI⟩
  have hbx : W.heap[w.heap.size]? = some (opB kd x p n c) := by rw [hW]; exact new0
  obtain ⟨c0, c1, c2⟩ := o3 hbx
  obtain ⟨k1, k2, k3, k4, k5⟩ := hk
  have j1 : (kd == 1) = false := by simpa using k1
  have j2 : (kd == 2) = false := by simpa using k2
  have j3 : (kd == 3) = false := by simpa using k3
  have j4 : (kd == 4) = false := by simpa using k4
  have j5 : (kd == 5) = false := by simpa using k5
  clear h hbx k1 k2 k3 k4 k5
  go_enter Try.func12, Try.ntmps12
  go_upto_region 1 with fail
  rw [← hW]
  clear hW
  go_wp2_with fail
  go_ret
  exact ⟨rfl, HZ⟩
end
end Go.Proofs.Ytodldfgoieikcaa
