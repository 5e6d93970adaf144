/-
  The law's step.
-/
import Derived.Test.YtihjmigjphljnaaTa
import Derived.Test.YtihjmigjphljnaaLd
import Derived.Deep.RegionWith
namespace Go.Proofs.Ytihjmigjphljnaa
open Go.RowKit Go.Maps Go.WideMaps
open Tk

/-- both hold the same -/
def P2 (w0 w : World) (X : Nat → Option Obj) (pb rb : Nat) : Prop := ∃ D, L2 w0 w X pb rb D D
theorem P2.below {w0 w W : World} {X : Nat → Option Obj} {pb rb : Nat} (h : P2 w0 w X pb rb) (b : Below w.heap.size w W) : P2 w0 W X pb rb := by
  obtain ⟨D, h⟩ := h
  exact ⟨D, h.below b⟩
theorem P2.bel {w0 w : World} {X : Nat → Option Obj} {pb rb : Nat} (h : P2 w0 w X pb rb) : Below w0.heap.size w0 w := by
  obtain ⟨D, h⟩ := h
  exact h.bel
theorem P2.kept {w0 w : World} {X : Nat → Option Obj} {pb rb : Nat} (h : P2 w0 w X pb rb) : ∀ k o, X k = some o → w.heap[k]? = some o := by
  obtain ⟨D, h⟩ := h
  exact h.kept
theorem L2.drop {w0 w W : World} {X : Nat → Option Obj} {pb rb : Nat} {D D' : List Nd} {ob : Obj} (hk : ∀ k o, X k = some o → w.heap[k]? = some o) (h : L2 w0 W (XS X w.heap.size ob) pb rb D D') : L2 w0 W X pb rb D D' := h.weak fun k o hx => by
  unfold XS
  rw [if_neg]
  · exact hx
  · rintro rfl
    rw [kept_lt hk (Nat.le_refl _)] at hx
    cases hx
theorem nB_cells {w : World} {g : Nat} {s : ByteArray} {ep a b c d sn : Int} {lv : Bool} (h : w.heap[g]? = some (.cells #[.string s, .int .i64 ep, .int .i64 a, .int .i64 b, .int .i64 c, .int .i64 d, .int .i64 sn, .bool lv] 46 (0, 0))) : w.cell? ⟨g, 0, none⟩ = some (.string s) ∧ w.cell? ⟨g, 1, none⟩ = some (.int .i64 ep) ∧ w.cell? ⟨g, 2, none⟩ = some (.int .i64 a) ∧ w.cell? ⟨g, 3, none⟩ = some (.int .i64 b) ∧ w.cell? ⟨g, 4, none⟩ = some (.int .i64 c) ∧ w.cell? ⟨g, 5, none⟩ = some (.int .i64 d) ∧ w.cell? ⟨g, 6, none⟩ = some (.int .i64 sn) ∧ w.cell? ⟨g, 7, none⟩ = some (.bool lv) := by
  refine ⟨?_, ?_, ?_, ?_, ?_, ?_, ?_, ?_⟩ <;> (rw [cell_of h]; rfl)
section
variable {w0 w : World} {X : Nat → Option Obj} {pb rb : Nat} {D : List Nd}
theorem l2_box (h : L2 w0 w X pb rb D D) (o : Opr) : L2 w0 (w.alloc (oB o)) (XS X w.heap.size (oB o)) pb rb D D := h.add ((Below.refl _ w).alloc (Nat.le_refl _) _) new0 (Nat.le_refl _)
theorem l2_op {W : World} {D1 D2 : List Nd} {o : Opr} {g : Nat} (h : L2 w0 W (XS X g (oB o)) pb rb D1 D2) : W.heap[g]? = some (oB o) := h.kept _ _ (by unfold XS; rw [if_pos rfl])
set_option maxHeartbeats 4000000 in
set_option maxRecDepth 100000 in
theorem step1 (h : L2 w0 w X pb rb D D) (s : ByteArray) (ep now : Int) (v : V) (hs : s.size ≤ 281474976710656) :
    Calls Try.prog 11 #[.pointer (some ⟨pb, 0, none⟩), .pointer (some ⟨rb, 0, none⟩), .agg #[.int .i64 1, .string s, .int .i64 ep, .int .i64 now, .int .i64 v.a, .int .i64 v.b, .int .i64 v.c, .int .i64 v.d]] w fun e w' => e = .returned (.bool true) ∧ Hid (P2 w0 w' X pb rb) := by
  obtain ⟨⟨b, r⟩, hbr⟩ : ∃ x, x = (regR D s ep v now).1 := ⟨_, rfl⟩
  have H0 : Hid (L2 w0 (w.alloc (oB ⟨1, s, ep, now, v⟩)) (XS X w.heap.size (oB ⟨1, s, ep, now, v⟩)) pb rb D D) := l2_box h _
  have KP : Hid (∀ W, L2 w0 W (XS X w.heap.size (oB ⟨1, s, ep, now, v⟩)) pb rb D D → Calls Try.prog 18 #[.pointer (some ⟨pb, 0, none⟩), .string s, .int .i64 ep, .agg #[.int .i64 v.a, .int .i64 v.b, .int .i64 v.c, .int .i64 v.d], .int .i64 now] W fun e w' => e = .returned (.tuple #[.bool b, .int .i64 r]) ∧ Hid (L2 w0 w' (XS X w.heap.size (oB ⟨1, s, ep, now, v⟩)) pb rb (regR D s ep v now).2 D)) := fun W hW => by
    have := l2_reg hW s hs ep now v
    rw [← hbr] at this
    exact this
  have KR : Hid (∀ W, L2 w0 W (XS X w.heap.size (oB ⟨1, s, ep, now, v⟩)) pb rb (regR D s ep v now).2 D → Calls Try.prog 22 #[.pointer (some ⟨rb, 0, none⟩), .string s, .int .i64 ep, .agg #[.int .i64 v.a, .int .i64 v.b, .int .i64 v.c, .int .i64 v.d], .int .i64 now] W fun e w' => e = .returned (.tuple #[.bool b, .int .i64 r]) ∧ Hid (P2 w0 w' X pb rb)) := fun W hW => by
    have := l2_rreg hW s hs ep now v
    rw [← hbr] at this
    exact this.mono fun e w' ⟨he, hh⟩ => ⟨he, _, L2.drop h.kept hh.out⟩
  obtain ⟨d0, d1, d2, d3, d4, d5, d6, d7⟩ := oB_cells (l2_op H0.out)
  clear h hs hbr
  go_enter Try.func11, Try.ntmps11
  go_upto_region 1 with fail
  unfold oB at H0 KP KR d0 d1 d2 d3 d4 d5 d6 d7
  generalize w.alloc (.cells #[.int .i64 1, .string s, .int .i64 ep, .int .i64 now, .int .i64 v.a, .int .i64 v.b, .int .i64 v.c, .int .i64 v.d] 34) = W1 at *
  go_upto_region 4 with (go_at_call 18; refine (KP.out _ H0.out).mono ?_; rintro e w2 ⟨rfl, h2⟩)
  clear d0 d1 d2 d3 d4 d5 d6 d7 H0 KP
  obtain ⟨d0, d1, d2, d3, d4, d5, d6, d7⟩ := oB_cells (o := ⟨1, s, ep, now, v⟩) (l2_op (o := ⟨1, s, ep, now, v⟩) h2.out)
  simp only at d0 d1 d2 d3 d4 d5 d6 d7
  go_wp2_with (go_at_call 22; refine (KR.out _ h2.out).mono ?_; rintro e w3 ⟨rfl, h3⟩)
  go_ret
  exact ⟨by simp, h3⟩
set_option maxHeartbeats 4000000 in
set_option maxRecDepth 100000 in
theorem step2 (h : L2 w0 w X pb rb D D) (s : ByteArray) (ep now : Int) (v : V) (hs : s.size ≤ 281474976710656) :
    Calls Try.prog 11 #[.pointer (some ⟨pb, 0, none⟩), .pointer (some ⟨rb, 0, none⟩), .agg #[.int .i64 2, .string s, .int .i64 ep, .int .i64 now, .int .i64 v.a, .int .i64 v.b, .int .i64 v.c, .int .i64 v.d]] w fun e w' => e = .returned (.bool true) ∧ Hid (P2 w0 w' X pb rb) := by
  obtain ⟨r, hbr⟩ : ∃ x, x = (beatR D s.data.toList ep now).1 := ⟨_, rfl⟩
  have H0 : Hid (L2 w0 (w.alloc (oB ⟨2, s, ep, now, v⟩)) (XS X w.heap.size (oB ⟨2, s, ep, now, v⟩)) pb rb D D) := l2_box h _
  have KP : Hid (∀ W, L2 w0 W (XS X w.heap.size (oB ⟨2, s, ep, now, v⟩)) pb rb D D → Calls Try.prog 19 #[.pointer (some ⟨pb, 0, none⟩), .string s, .int .i64 ep, .int .i64 now] W fun e w' => e = .returned (.int .i64 r) ∧ Hid (L2 w0 w' (XS X w.heap.size (oB ⟨2, s, ep, now, v⟩)) pb rb (beatR D s.data.toList ep now).2 D)) := fun W hW => by
    have := l2_beat hW s hs ep now
    rw [← hbr] at this
    exact this
  have KR : Hid (∀ W, L2 w0 W (XS X w.heap.size (oB ⟨2, s, ep, now, v⟩)) pb rb (beatR D s.data.toList ep now).2 D → Calls Try.prog 23 #[.pointer (some ⟨rb, 0, none⟩), .string s, .int .i64 ep, .int .i64 now] W fun e w' => e = .returned (.int .i64 r) ∧ Hid (P2 w0 w' X pb rb ∧ w'.heap[w.heap.size]? = some (oB ⟨2, s, ep, now, v⟩))) := fun W hW => by
    have := l2_rbeat hW s ep now
    rw [← hbr] at this
    exact this.mono fun e w' ⟨he, hh⟩ => ⟨he, ⟨_, L2.drop h.kept hh.out⟩, l2_op hh.out⟩
  have SS : Hid (∀ W : World, W.heap[w.heap.size]? = some (oB ⟨2, s, ep, now, v⟩) → W.cell? ⟨w.heap.size, 1, none⟩ = some (.string s) ∧ W.cell? ⟨w.heap.size, 2, none⟩ = some (.int .i64 ep) ∧ W.cell? ⟨w.heap.size, 3, none⟩ = some (.int .i64 now)) := fun W hW => by
    obtain ⟨-, d1, d2, d3, -⟩ := oB_cells hW
    exact ⟨d1, d2, d3⟩
  have HB : Hid (∀ W D1 D2, L2 w0 W (XS X w.heap.size (oB ⟨2, s, ep, now, v⟩)) pb rb D1 D2 → W.heap[w.heap.size]? = some (oB ⟨2, s, ep, now, v⟩)) := fun W D1 D2 hW => l2_op hW
  have zz := SS.out _ (HB.out _ _ _ H0.out)
  have zd := SS.out ((w.alloc (oB ⟨2, s, ep, now, v⟩)).drewN 1) (HB.out (w.alloc (oB ⟨2, s, ep, now, v⟩)) _ _ H0.out)
  have BX := KP.out ((w.alloc (oB ⟨2, s, ep, now, v⟩)).drewN 1) (H0.out.below (below_drewN (Below.refl _ _) 1))
  obtain ⟨d0, -⟩ := oB_cells (HB.out _ _ _ H0.out)
  clear h hs hbr H0 KP
  unfold oB at zz zd BX d0
  simp only at zz zd BX d0
  go_enter Try.func11, Try.ntmps11
  go_upto_region 7 with fail
  go_region_held3 (fun W : World => W.cell? ⟨w.heap.size, 1, none⟩ = some (.string s) ∧ W.cell? ⟨w.heap.size, 2, none⟩ = some (.int .i64 ep) ∧ W.cell? ⟨w.heap.size, 3, none⟩ = some (.int .i64 now)) (first | (with_reducible assumption) | (with_reducible exact zd) | (exact zd) | (exact zz) | go_keep) (first
    | (go_at_call 19; refine BX.mono ?_; rintro e w2 ⟨rfl, h2⟩; have zz := SS.out _ (HB.out _ _ _ h2.out))
    | (go_at_call 23; refine (KR.out _ h2.out).mono ?_; rintro e w3 ⟨rfl, h3⟩; have zz := SS.out _ h3.out.2))
  all_goals go_wp2_with fail
  all_goals go_ret
  all_goals exact ⟨by simp, h3.out.1⟩
set_option maxHeartbeats 4000000 in
set_option maxRecDepth 100000 in
theorem step3 (h : L2 w0 w X pb rb D D) (s : ByteArray) (ep now : Int) (v : V) :
    Calls Try.prog 11 #[.pointer (some ⟨pb, 0, none⟩), .pointer (some ⟨rb, 0, none⟩), .agg #[.int .i64 3, .string s, .int .i64 ep, .int .i64 now, .int .i64 v.a, .int .i64 v.b, .int .i64 v.c, .int .i64 v.d]] w fun e w' => e = .returned (.bool true) ∧ Hid (P2 w0 w' X pb rb) := by
  have H0 : Hid (L2 w0 (w.alloc (oB ⟨3, s, ep, now, v⟩)) (XS X w.heap.size (oB ⟨3, s, ep, now, v⟩)) pb rb D D) := l2_box h _
  have hXX : XS X w.heap.size (oB ⟨3, s, ep, now, v⟩) w.heap.size = some (oB ⟨3, s, ep, now, v⟩) := if_pos rfl
  have SS : Hid (∀ W : World, (∀ k o, XS X w.heap.size (oB ⟨3, s, ep, now, v⟩) k = some o → W.heap[k]? = some o) → W.cell? ⟨w.heap.size, 3, none⟩ = some (.int .i64 now)) := fun W hW => by
    obtain ⟨-, -, -, d3, -⟩ := oB_cells (hW _ _ hXX)
    exact d3
  have HE : Hid (Calls Try.prog 20 #[.pointer (some ⟨pb, 0, none⟩), .int .i64 now] ((w.alloc (oB ⟨3, s, ep, now, v⟩)).drewN 1) fun e w1 => ∃ p m c1, e = .returned (.slice p m c1) ∧ Hid ((∀ k o, XS X w.heap.size (oB ⟨3, s, ep, now, v⟩) k = some o → w1.heap[k]? = some o) ∧ ∀ W, Below w1.heap.size w1 W → Calls Try.prog 25 #[.pointer (some ⟨rb, 0, none⟩), .int .i64 now] W fun e w2 => ∃ p2 c2, e = .returned (.slice p2 m c2) ∧ Hid ((∀ k o, XS X w.heap.size (oB ⟨3, s, ep, now, v⟩) k = some o → w2.heap[k]? = some o) ∧ ∀ W2, Below w2.heap.size w2 W2 → Calls Try.prog 24 #[.slice p m c1, .slice p2 m c2] W2 fun e w3 => e = .returned (.bool true) ∧ Hid (P2 w0 w3 X pb rb ∧ ∀ k o, XS X w.heap.size (oB ⟨3, s, ep, now, v⟩) k = some o → w3.heap[k]? = some o)))) := by
    refine (l2_exp (H0.out.below (below_drewN (Below.refl _ _) 1)) now).mono ?_
    rintro e w1 ⟨p, m, c1, he, h1⟩
    refine ⟨p, m, c1, he, h1.out.1, fun W b => (h1.out.2 W b).mono ?_⟩
    rintro e w2 ⟨p2, c2, he2, h2⟩
    refine ⟨p2, c2, he2, h2.out.1, fun W2 b2 => (h2.out.2 W2 b2).mono ?_⟩
    rintro e w3 ⟨he3, h3⟩
    exact ⟨he3, ⟨_, L2.drop h.kept h3.out⟩, h3.out.kept⟩
  have zz := SS.out _ H0.out.kept
  have zd := SS.out ((w.alloc (oB ⟨3, s, ep, now, v⟩)).drewN 1) (fun k o hk => H0.out.kept k o hk)
  have d0 : (w.alloc (oB ⟨3, s, ep, now, v⟩)).cell? ⟨w.heap.size, 0, none⟩ = some (.int .i64 3) := (oB_cells (H0.out.kept _ _ hXX)).1
  have BX := HE.out
  clear h H0 hXX HE
  unfold oB at zz zd BX d0
  simp only at zz zd BX d0
  go_enter Try.func11, Try.ntmps11
  go_upto_region 9 with fail
  go_region_held3 (fun W : World => W.cell? ⟨w.heap.size, 3, none⟩ = some (.int .i64 now)) (first | (with_reducible assumption) | (with_reducible exact zd) | (exact zd) | (exact zz) | go_keep) (first
    | (go_at_call 20; refine BX.mono ?_; rintro e w2 ⟨p, m, c1, rfl, h2⟩; have zz := SS.out _ h2.out.1)
    | (go_at_call 25; refine (h2.out.2 _ (Below.refl _ _)).mono ?_; rintro e w3 ⟨p2, c2, rfl, h3⟩; have zz := SS.out _ h3.out.1)
    | (go_at_call 24; refine (h3.out.2 _ (Below.refl _ _)).mono ?_; rintro e w4 ⟨rfl, h4⟩; have zz := SS.out _ h4.out.2))
  all_goals go_wp2_with fail
  all_goals go_ret
  all_goals exact ⟨by simp, h4.out.1⟩
set_option maxHeartbeats 4000000 in
set_option maxRecDepth 100000 in
theorem step4 (h : L2 w0 w X pb rb D D) (s : ByteArray) (ep now : Int) (v : V) (hs : s.size ≤ 281474976710656) :
    Calls Try.prog 11 #[.pointer (some ⟨pb, 0, none⟩), .pointer (some ⟨rb, 0, none⟩), .agg #[.int .i64 4, .string s, .int .i64 ep, .int .i64 now, .int .i64 v.a, .int .i64 v.b, .int .i64 v.c, .int .i64 v.d]] w fun e w' => e = .returned (.bool true) ∧ Hid (P2 w0 w' X pb rb) := by
  have H0 : Hid (L2 w0 (w.alloc (oB ⟨4, s, ep, now, v⟩)) (XS X w.heap.size (oB ⟨4, s, ep, now, v⟩)) pb rb D D) := l2_box h _
  obtain ⟨⟨x, r⟩, hx⟩ : ∃ x, x = getR D s.data.toList := ⟨_, rfl⟩
  have KP : Hid (∀ W, L2 w0 W (XS X w.heap.size (oB ⟨4, s, ep, now, v⟩)) pb rb D D → Calls Try.prog 21 #[.pointer (some ⟨pb, 0, none⟩), .string s] W fun e w' => e = .returned (.tuple #[.agg #[.string x.nm, .int .i64 x.ep, .int .i64 x.v.a, .int .i64 x.v.b, .int .i64 x.v.c, .int .i64 x.v.d, .int .i64 x.sn, .bool x.lv], .int .i64 r]) ∧ Hid (L2 w0 w' (XS X w.heap.size (oB ⟨4, s, ep, now, v⟩)) pb rb D D)) := fun W hW => by
    have := l2_get hW s hs
    rw [← hx] at this
    exact this
  have KR : Hid (∀ W, L2 w0 W (XS X w.heap.size (oB ⟨4, s, ep, now, v⟩)) pb rb D D → Calls Try.prog 26 #[.pointer (some ⟨rb, 0, none⟩), .string s] W fun e w' => e = .returned (.tuple #[.agg #[.string x.nm, .int .i64 x.ep, .int .i64 x.v.a, .int .i64 x.v.b, .int .i64 x.v.c, .int .i64 x.v.d, .int .i64 x.sn, .bool x.lv], .int .i64 r]) ∧ Hid (L2 w0 w' (XS X w.heap.size (oB ⟨4, s, ep, now, v⟩)) pb rb D D ∧ Below W.heap.size W w')) := fun W hW => by
    have h1 := l2_rget hW s
    obtain ⟨S, T, t1, t2, t3, t4⟩ := hW.both
    have h2 := rget_any t2 s
    rw [← hx] at h2
    exact h2.mono fun e w' ⟨he, hb⟩ => ⟨he, hW.below hb, hb⟩
  have HD : Hid (∀ W, L2 w0 W (XS X w.heap.size (oB ⟨4, s, ep, now, v⟩)) pb rb D D → P2 w0 W X pb rb) := fun W hW => ⟨D, L2.drop h.kept hW⟩
  have q46 := eq46 x.nm x.ep x.v.a x.v.b x.v.c x.v.d x.sn x.lv
  obtain ⟨d0, d1, -⟩ := oB_cells (l2_op H0.out)
  clear h hs hx
  go_enter Try.func11, Try.ntmps11
  go_upto_region 1 with fail
  unfold oB at H0 KP KR HD d0 d1
  simp only at d0 d1
  generalize w.alloc (.cells #[.int .i64 4, .string s, .int .i64 ep, .int .i64 now, .int .i64 v.a, .int .i64 v.b, .int .i64 v.c, .int .i64 v.d] 34) = W1 at *
  go_upto_region 12 with (go_at_call 21; refine (KP.out _ H0.out).mono ?_; rintro e w2 ⟨rfl, h2⟩)
  have b2 : Below w2.heap.size w2 (w2.alloc (.cells #[.string x.nm, .int .i64 x.ep, .int .i64 x.v.a, .int .i64 x.v.b, .int .i64 x.v.c, .int .i64 x.v.d, .int .i64 x.sn, .bool x.lv] 46)) := (Below.refl _ _).alloc (Nat.le_refl _) _
  have H3 : Hid _ := h2.out.below b2
  have Z3 : Hid ((w2.alloc (.cells #[.string x.nm, .int .i64 x.ep, .int .i64 x.v.a, .int .i64 x.v.b, .int .i64 x.v.c, .int .i64 x.v.d, .int .i64 x.sn, .bool x.lv] 46)).heap[w2.heap.size]? = some (.cells #[.string x.nm, .int .i64 x.ep, .int .i64 x.v.a, .int .i64 x.v.b, .int .i64 x.v.c, .int .i64 x.v.d, .int .i64 x.sn, .bool x.lv] 46 (0, 0))) := new0
  clear d0 d1 H0 KP h2 b2
  generalize (w2.alloc (.cells #[.string x.nm, .int .i64 x.ep, .int .i64 x.v.a, .int .i64 x.v.b, .int .i64 x.v.c, .int .i64 x.v.d, .int .i64 x.sn, .bool x.lv] 46)) = W3 at *
  generalize w2.heap.size = g3 at *
  obtain ⟨d0, d1, -⟩ := oB_cells (o := ⟨4, s, ep, now, v⟩) (l2_op (o := ⟨4, s, ep, now, v⟩) H3.out)
  simp only at d0 d1
  go_upto_region 13 with (go_at_call 26; refine (KR.out _ H3.out).mono ?_; rintro e w4 ⟨rfl, h4⟩)
  have b4 : Below w4.heap.size w4 (w4.alloc (.cells #[.string x.nm, .int .i64 x.ep, .int .i64 x.v.a, .int .i64 x.v.b, .int .i64 x.v.c, .int .i64 x.v.d, .int .i64 x.sn, .bool x.lv] 46)) := (Below.refl _ _).alloc (Nat.le_refl _) _
  have HF : Hid (P2 w0 (w4.alloc (.cells #[.string x.nm, .int .i64 x.ep, .int .i64 x.v.a, .int .i64 x.v.b, .int .i64 x.v.c, .int .i64 x.v.d, .int .i64 x.sn, .bool x.lv] 46)) X pb rb) := HD.out _ (h4.out.1.below b4)
  have Z4 : Hid ((w4.alloc (.cells #[.string x.nm, .int .i64 x.ep, .int .i64 x.v.a, .int .i64 x.v.b, .int .i64 x.v.c, .int .i64 x.v.d, .int .i64 x.sn, .bool x.lv] 46)).heap[g3]? = some (.cells #[.string x.nm, .int .i64 x.ep, .int .i64 x.v.a, .int .i64 x.v.b, .int .i64 x.v.c, .int .i64 x.v.d, .int .i64 x.sn, .bool x.lv] 46 (0, 0))) := at_below b4 (Nat.le_refl _) (at_below h4.out.2 (Nat.le_refl _) Z3.out)
  have Z5 : Hid ((w4.alloc (.cells #[.string x.nm, .int .i64 x.ep, .int .i64 x.v.a, .int .i64 x.v.b, .int .i64 x.v.c, .int .i64 x.v.d, .int .i64 x.sn, .bool x.lv] 46)).heap[w4.heap.size]? = some (.cells #[.string x.nm, .int .i64 x.ep, .int .i64 x.v.a, .int .i64 x.v.b, .int .i64 x.v.c, .int .i64 x.v.d, .int .i64 x.sn, .bool x.lv] 46 (0, 0))) := new0
  clear d0 d1 H3 KR h4 b4 Z3 HD
  generalize (w4.alloc (.cells #[.string x.nm, .int .i64 x.ep, .int .i64 x.v.a, .int .i64 x.v.b, .int .i64 x.v.c, .int .i64 x.v.d, .int .i64 x.sn, .bool x.lv] 46)) = W5 at *
  generalize w4.heap.size = g5 at *
  obtain ⟨a0, a1, a2, a3, a4, a5, a6, a7⟩ := nB_cells Z4.out
  obtain ⟨c0, c1, c2, c3, c4, c5, c6, c7⟩ := nB_cells Z5.out
  go_wp2_with fail
  go_ret
  exact ⟨by simp, HF⟩
set_option maxHeartbeats 4000000 in
set_option maxRecDepth 100000 in
theorem step0 (h : L2 w0 w X pb rb D D) (k : Int) (h1 : k ≠ 1) (h2 : k ≠ 2) (h3 : k ≠ 3) (h4 : k ≠ 4) (s : ByteArray) (ep now : Int) (v : V) :
    Calls Try.prog 11 #[.pointer (some ⟨pb, 0, none⟩), .pointer (some ⟨rb, 0, none⟩), .agg #[.int .i64 k, .string s, .int .i64 ep, .int .i64 now, .int .i64 v.a, .int .i64 v.b, .int .i64 v.c, .int .i64 v.d]] w fun e w' => e = .returned (.bool true) ∧ Hid (P2 w0 w' X pb rb) := by
  have HF : Hid (P2 w0 (w.alloc (oB ⟨k, s, ep, now, v⟩)) X pb rb) := ⟨D, h.below ((Below.refl _ w).alloc (Nat.le_refl _) _)⟩
  have d0 : (w.alloc (oB ⟨k, s, ep, now, v⟩)).cell? ⟨w.heap.size, 0, none⟩ = some (.int .i64 k) := (oB_cells (o := ⟨k, s, ep, now, v⟩) new0).1
  have e1 : (k == 1) = false := by simpa using h1
  have e2 : (k == 2) = false := by simpa using h2
  have e3 : (k == 3) = false := by simpa using h3
  have e4 : (k == 4) = false := by simpa using h4
  clear h
  unfold oB at HF d0
  simp only at d0
  go_enter Try.func11, Try.ntmps11
  go_wp2_with fail
  go_ret
  exact ⟨rfl, HF⟩
theorem step_any (h : P2 w0 w X pb rb) (o : Opr) (hs : o.nm.size ≤ 281474976710656) :
    Calls Try.prog 11 #[.pointer (some ⟨pb, 0, none⟩), .pointer (some ⟨rb, 0, none⟩), .agg #[.int .i64 o.k, .string o.nm, .int .i64 o.ep, .int .i64 o.now, .int .i64 o.v.a, .int .i64 o.v.b, .int .i64 o.v.c, .int .i64 o.v.d]] w fun e w' => e = .returned (.bool true) ∧ Hid (P2 w0 w' X pb rb) := by
  obtain ⟨D, h⟩ := h
  by_cases h1 : o.k = 1
  · rw [h1]; exact step1 h _ _ _ _ hs
  by_cases h2 : o.k = 2
  · rw [h2]; exact step2 h _ _ _ _ hs
  by_cases h3 : o.k = 3
  · rw [h3]; exact step3 h _ _ _ _
  by_cases h4 : o.k = 4
  · rw [h4]; exact step4 h _ _ _ _ hs
  exact step0 h _ h1 h2 h3 h4 _ _ _ _
end
end Go.Proofs.Ytihjmigjphljnaa
