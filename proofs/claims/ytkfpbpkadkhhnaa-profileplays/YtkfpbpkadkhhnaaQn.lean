/-
  An operation at both profiles.
-/
import Derived.Test.YtkfpbpkadkhhnaaQm
namespace Go.Proofs.Ytkfpbpkadkhhnaa
open Go.RowKit Go.Maps Go.Sort

abbrev opA (o : Opr) : Value := .agg #[.int .i64 o.kd, .int .i64 o.a, .int .i64 o.b, .int .i64 o.v.a, .int .i64 o.v.b, .int .i64 o.v.c, .int .i64 o.v.d]
abbrev opB (o : Opr) : Obj := .cells #[.int .i64 o.kd, .int .i64 o.a, .int .i64 o.b, .int .i64 o.v.a, .int .i64 o.v.b, .int .i64 o.v.c, .int .i64 o.v.d] 37 (0, 0)
def O7 (w : World) (g : Nat) (o : Opr) : Prop := w.cell? ⟨g, 0, none⟩ = some (.int .i64 o.kd) ∧ w.cell? ⟨g, 1, none⟩ = some (.int .i64 o.a) ∧ w.cell? ⟨g, 2, none⟩ = some (.int .i64 o.b) ∧ w.cell? ⟨g, 3, none⟩ = some (.int .i64 o.v.a) ∧ w.cell? ⟨g, 4, none⟩ = some (.int .i64 o.v.b) ∧ w.cell? ⟨g, 5, none⟩ = some (.int .i64 o.v.c) ∧ w.cell? ⟨g, 6, none⟩ = some (.int .i64 o.v.d)
theorem o7 {w : World} {g : Nat} {o : Opr} (h : w.heap[g]? = some (opB o)) : O7 w g o :=
  ⟨Lib.cell_of_heap h 0, Lib.cell_of_heap h 1, Lib.cell_of_heap h 2, Lib.cell_of_heap h 3, Lib.cell_of_heap h 4, Lib.cell_of_heap h 5, Lib.cell_of_heap h 6⟩
section
variable {w0 w : World} {pb rb : Nat} {X : Nat → Option Obj} {C : V} {T : List Opr}
set_option maxHeartbeats 2000000 in
theorem s_free (h : BE w0 w pb rb X C T) (o : Opr) (hk : o.kd = 2) :
    Calls Try.prog 11 #[.pointer (some ⟨pb, 0, none⟩), .pointer (some ⟨rb, 0, none⟩), opA o] w fun e w' => e = .returned (.bool true) ∧ Below w.heap.size w w' := by
  obtain ⟨kd, a, b, v⟩ := o
  obtain rfl : kd = 2 := hk
  obtain ⟨f, hf⟩ : ∃ f, f = fT C T a := ⟨_, rfl⟩
  obtain ⟨W, hW⟩ : ∃ W, W = w.alloc (opB ⟨2, a, b, v⟩) := ⟨_, rfl⟩
  have hB : Below w.heap.size w W := by rw [hW]; exact (Below.refl _ w).alloc (Nat.le_refl _) _
  have HB : Hid (Below w.heap.size w W) := hB
  have H17 : Hid (∀ W1, Below W.heap.size W W1 → Calls Try.prog 17 #[.pointer (some ⟨pb, 0, none⟩), .int .i64 a] W1 fun e w' => e = .returned (.agg #[.int .i64 f.a, .int .i64 f.b, .int .i64 f.c, .int .i64 f.d]) ∧ Below W1.heap.size W1 w') := fun W1 b1 => by
    rw [hf]
    exact l_free (BL.ll (h.below (hB.trans (b1.mono hB.size)))) a
  have H24 : Hid (∀ W1, Below W.heap.size W W1 → Calls Try.prog 24 #[.pointer (some ⟨rb, 0, none⟩), .int .i64 a] W1 fun e w' => e = .returned (.agg #[.int .i64 f.a, .int .i64 f.b, .int .i64 f.c, .int .i64 f.d]) ∧ Below W1.heap.size W1 w') := fun W1 b1 => by
    rw [hf]
    obtain ⟨tv, h'⟩ := BL.rr (h.below (hB.trans (b1.mono hB.size)))
    exact rfree_any h' h.ro a
  have G17 := grown H17
  have G24 := grown H24
  have hq : ∀ w, (Op.equalIn 10000 23 (.agg #[.int .i64 f.a, .int .i64 f.b, .int .i64 f.c, .int .i64 f.d]) (.agg #[.int .i64 f.a, .int .i64 f.b, .int .i64 f.c, .int .i64 f.d])).run Try.prog w = .ok true w := fun w => by rw [eqV]; simp
  have hbx : W.heap[w.heap.size]? = some (opB ⟨2, a, b, v⟩) := by rw [hW]; exact new0
  obtain ⟨c0, c1, c2, c3, c4, c5, c6⟩ := o7 hbx
  simp only at c0 c1 c2 c3 c4 c5 c6
  have m1 := cell_regrown c1
  clear hf h H17 H24 hB
  go_enter Try.func11, Try.ntmps11
  go_upto_region 1 with fail
  rw [← hW]
  clear hW
  go_upto_region 5 with fail
  refine wp_region_quiet_below (by kernel_rfl) (by kernel_rfl) ?_
  repeat (first | go_big_quiet_step (first | (go_at_call 17; exact G17.out _ _) | (go_at_call 24; exact G24.out _ _)) | quiet_step (first | (go_at_call 17; exact G17.out _ _) | (go_at_call 24; exact G24.out _ _)))
  refine wpQuiet_nil ?_
  intro _ hw'
  obtain ⟨⟨dq, osq⟩, hw''⟩ := hw'
  subst hw''
  have HZ : Hid (Below w.heap.size w (grow (redrawn W dq) osq)) := HB.out.trans ((below_regrown W dq osq).mono HB.out.size)
  clear c0 c1 c2 c3 c4 c5 c6 m1 G17 G24 HB hbx
  generalize grow (redrawn W dq) osq = W4 at *
  go_wp2_with fail
  go_ret
  exact ⟨rfl, HZ.out⟩
set_option maxHeartbeats 2000000 in
theorem s_take (h : BE w0 w pb rb X C T) (h4 : T.length < 4096) (o : Opr) (hk : o.kd = 1) :
    Calls Try.prog 11 #[.pointer (some ⟨pb, 0, none⟩), .pointer (some ⟨rb, 0, none⟩), opA o] w fun e w' => e = .returned (.bool true) ∧ BE w0 w' pb rb X C (stT C T o.a o.b o.v) := by
  obtain ⟨kd, a, b, v⟩ := o
  obtain rfl : kd = 1 := hk
  obtain ⟨x, hx⟩ : ∃ x, x = tkC (fT C T) T.length a b v := ⟨_, rfl⟩
  obtain ⟨W, hW⟩ : ∃ W, W = w.alloc (opB ⟨1, a, b, v⟩) := ⟨_, rfl⟩
  have hL : BL w0 W pb rb (adX X w.heap.size (opB ⟨1, a, b, v⟩)) C (fT C T) T.length T := by rw [hW]; exact BL.alloc h _
  have hbx : W.heap[w.heap.size]? = some (opB ⟨1, a, b, v⟩) := by rw [hW]; exact new0
  have hXX : ∀ j o, X j = some o → adX X w.heap.size (opB ⟨1, a, b, v⟩) j = some o := fun j o q => by
    unfold adX
    rw [if_neg (fun e => ?_)]
    · exact q
    · obtain ⟨S, tv, h, _⟩ := h
      have := (Array.getElem?_eq_some_iff.1 (h.l.x j o q).1).1
      omega
  generalize hg : w.heap.size = g at *
  have HS : Hid (∀ W1, Below W.heap.size W W1 → Calls Try.prog 15 #[.pointer (some ⟨pb, 0, none⟩), .int .i64 a, .int .i64 b, .agg #[.int .i64 v.a, .int .i64 v.b, .int .i64 v.c, .int .i64 v.d]] W1 fun e w' => e = .returned (.int .i64 x) ∧ O7 w' g ⟨1, a, b, v⟩ ∧
      Hid (∀ W2, Below w'.heap.size w' W2 → Calls Try.prog 23 #[.pointer (some ⟨rb, 0, none⟩), .int .i64 a, .int .i64 b, .agg #[.int .i64 v.a, .int .i64 v.b, .int .i64 v.c, .int .i64 v.d]] W2 fun e w2 => e = .returned (.int .i64 x) ∧ O7 w2 g ⟨1, a, b, v⟩ ∧ Hid (BE w0 w2 pb rb X C (stT C T a b v)))) := fun W1 b1 => by
    refine (b_take (hL.below b1) a b v).mono ?_
    rintro e w' ⟨rfl, h1⟩
    refine ⟨by rw [hx], o7 (h1.ll.box (adX_self _ _ _)), fun W2 b2 => ?_⟩
    refine (b_rtake (h1.below b2) a b v h4).mono ?_
    rintro e w2 ⟨rfl, h2⟩
    refine ⟨by rw [hx], o7 (h2.ll.box (adX_self _ _ _)), ?_⟩
    have h3 := h2.forget hXX
    rw [← stT_len, ← funext (stT_fT C T a b v)] at h3
    exact h3
  obtain ⟨c0, c1, c2, c3, c4, c5, c6⟩ := o7 hbx
  have zz := o7 hbx
  simp only at c0 c1 c2 c3 c4 c5 c6
  unfold O7 at zz HS
  simp only at zz HS
  clear hx h hL hXX hbx h4
  go_enter Try.func11, Try.ntmps11
  go_upto_region 1 with fail
  rw [← hW]
  clear hW hg
  go_upto_region 3 with fail
  go_region_held3 (fun w' : World => w'.cell? ⟨g, 0, none⟩ = some (.int .i64 1) ∧ w'.cell? ⟨g, 1, none⟩ = some (.int .i64 a) ∧ w'.cell? ⟨g, 2, none⟩ = some (.int .i64 b) ∧ w'.cell? ⟨g, 3, none⟩ = some (.int .i64 v.a) ∧ w'.cell? ⟨g, 4, none⟩ = some (.int .i64 v.b) ∧ w'.cell? ⟨g, 5, none⟩ = some (.int .i64 v.c) ∧ w'.cell? ⟨g, 6, none⟩ = some (.int .i64 v.d)) (first | (with_reducible assumption) | (with_reducible exact z4) | (with_reducible exact z3) | (with_reducible exact zz) | (exact zz) | go_keep) (first | (go_at_call 15; refine (HS.out _ (by go_grown)).mono ?_; rintro e w3 ⟨rfl, z3, h3⟩) | (go_at_call 23; refine (h3.out _ (by go_grown)).mono ?_; rintro e w4 ⟨rfl, z4, h4⟩))
  all_goals clear HS zz h3 c0 c1 c2 c3 c4 c5 c6
  go_wp2_with fail
  go_ret
  exact ⟨rfl, h4.out⟩
end
end Go.Proofs.Ytkfpbpkadkhhnaa
