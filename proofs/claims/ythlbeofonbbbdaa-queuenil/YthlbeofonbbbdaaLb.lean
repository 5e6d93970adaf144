/-
  QueueNil's law.
-/
import Derived.Test.YthlbeofonbbbdaaLa
namespace Go.Proofs.Ythlbeofonbbbdaa
open Go.RowKit Go.Maps Go.WideMaps

/-- the law's own box, kept -/
def KB (w W : World) (x : J) : Prop := Below w.heap.size w W ∧ W.heap[w.heap.size]? = some (.cells #[.int .i64 x.job, .string ⟨⟨x.tn⟩⟩, .int .i64 x.pr] 32 (0, 0))
theorem KB.step {w W W' : World} {x : J} (h : KB w W x) (b : Below W.heap.size W W') : KB w W' x := ⟨h.1.trans (b.mono h.1.size), at_below b (Nat.le_refl _) h.2⟩
theorem KB.alloc {w W : World} {x : J} (h : KB w W x) (o : Obj) : KB w (W.alloc o) x := h.step ((Below.refl _ W).alloc (Nat.le_refl _) o)
theorem KB.cells {w W : World} {x : J} (h : KB w W x) : (W.cell? ⟨w.heap.size, 0, none⟩ = some (.int .i64 x.job) ∧ W.cell? ⟨w.heap.size, 1, none⟩ = some (.string ⟨⟨x.tn⟩⟩) ∧ W.cell? ⟨w.heap.size, 2, none⟩ = some (.int .i64 x.pr)) := c3 h.2
theorem KB.lt {w W : World} {x : J} (h : KB w W x) : w.heap.size < W.heap.size := (Array.getElem?_eq_some_iff.1 h.2).1
/-- both queues: the program's has done the push -/
structure T1 (w V W : World) (x : J) (pb rb : Nat) : Prop where
  k : KB w W x
  p : Pz V W pb (pushD [] x).2
  r : W.heap[rb]? = some (.cells #[.slice none 0 0] 29 (0, 0))
  n : rb ≠ pb ∧ rb < V.heap.size ∧ w.heap.size ≤ rb ∧ w.heap.size ≠ rb
/-- both have -/
structure T2 (w W : World) (x : J) (pb rb : Nat) : Prop where
  k : KB w W x
  p : ∃ S, Que W S pb (pushD [] x).2 1
  r : ∃ q n c, W.heap[rb]? = some (.cells #[.slice q n c] 29 (0, 0)) ∧ RRow 0 W (.slice q n c) (pushD [] x).2
section
variable {w V W W' : World} {x : J} {pb rb : Nat}
theorem T1.step (h : T1 w V W x pb rb) (b : Below W.heap.size W W') : T1 w V W' x pb rb := by
  obtain ⟨S, h1, h2, h3⟩ := h.p
  exact ⟨h.k.step b, ⟨S, h1.keepB b, h2.trans (Kp.of_below b (S := fun _ => False)) (fun _ _ e => e.elim), h3⟩, at_below b (Nat.le_refl _) h.r, h.n⟩
theorem T2.step (h : T2 w W x pb rb) (b : Below W.heap.size W W') : T2 w W' x pb rb := by
  obtain ⟨S, h1⟩ := h.p
  obtain ⟨q, n, c, h2, h3⟩ := h.r
  exact ⟨h.k.step b, ⟨S, h1.keepB b⟩, q, n, c, at_below b (Nat.le_refl _) h2, h3.below b⟩
theorem t12 (hz : x.tn.length ≤ 281474976710656) (hk : KB w V x) (hp : V.heap[pb]? = some (.cells #[.map none, .map none] 54 (0, 0))) (hr : V.heap[rb]? = some (.cells #[.slice none 0 0] 29 (0, 0))) (hn : rb ≠ pb ∧ w.heap.size ≤ rb ∧ w.heap.size ≠ rb ∧ w.heap.size < pb) :
    Calls Try.prog 12 #[.pointer (some ⟨pb, 0, none⟩), .agg #[.int .i64 x.job, .string ⟨⟨x.tn⟩⟩, .int .i64 x.pr]] V fun e w' => e = .returned (.int .i64 (pushD [] x).1) ∧ Hid (T1 w V w' x pb rb) :=
  (push_zero V pb x hz hp).mono fun e w' ⟨he, h⟩ => ⟨he, by
    obtain ⟨S, h1, h2, h3⟩ := h.out
    have hrl := (Array.getElem?_eq_some_iff.1 hr).1
    refine ⟨⟨hk.1.trans (h2.below hk.1.size fun k q e => by omega), ?_⟩, h.out, (h2.block rb hrl hn.1).trans hr, hn.1, hrl, hn.2.1, hn.2.2.1⟩
    exact (h2.block w.heap.size (Array.getElem?_eq_some_iff.1 hk.2).1 (by omega)).trans hk.2⟩
theorem push1 (hx : x.ok = true) : pushD [] x = (0, [x]) := by
  unfold pushD
  rw [if_pos hx]
  rfl
theorem push2 (hx : x.ok = false) : pushD [] x = (2, []) := by
  unfold pushD
  rw [if_neg (by rw [hx]; decide)]
theorem t19 (h : T1 w V W x pb rb) : Calls Try.prog 19 #[.pointer (some ⟨rb, 0, none⟩), .agg #[.int .i64 x.job, .string ⟨⟨x.tn⟩⟩, .int .i64 x.pr]] W fun e w' => e = .returned (.int .i64 (pushD [] x).1) ∧ Hid (T2 w w' x pb rb) := by
  cases hx : x.ok with
  | false =>
    refine (rpush_bad W rb x ⟨⟨x.tn⟩⟩ hx).mono fun e w' ⟨he, hb⟩ => ⟨by rw [push2 hx]; exact he, ?_⟩
    have h' := h.step hb
    obtain ⟨S, h1, -⟩ := h'.p
    refine ⟨h'.k, ⟨S, h1⟩, none, 0, 0, h'.r, ?_⟩
    rw [push2 hx]
    exact GRow.nil _ _ _ _ _
  | true =>
    refine (rpush_one W rb x hx h.r).mono fun e w' ⟨he, g, cap, hR⟩ => ⟨by rw [push1 hx]; exact he, ?_⟩
    obtain ⟨S, h1, h2, h3⟩ := h.p
    have hn := h.n
    refine ⟨⟨h.k.1.trans (hR.kp.below h.k.1.size fun k q e => by omega), ?_⟩, ⟨S, h1.keepK hR.kp fun k hk e => ?_⟩, _, _, _, hR.pc, ?_⟩
    · exact (hR.kp.block w.heap.size h.k.lt hn.2.2.2).trans h.k.2
    · have e' : k = rb := e
      rcases h3 k hk with q | q
      · omega
      · omega
    · rw [push1 hx]
      exact hR.row
theorem len1 (x : J) : (pushD [] x).2.length ≤ 1 := by
  cases hx : x.ok with
  | false => rw [push2 hx]; decide
  | true => rw [push1 hx]; exact Nat.le_refl _
theorem t14 (h : T2 w W x pb rb) : Calls Try.prog 14 #[.pointer (some ⟨pb, 0, none⟩), .string ⟨⟨x.tn⟩⟩] W fun e w' => ∃ p c, e = .returned (.slice p (ofT x.tn (pushD [] x).2).length c) ∧ Hid (T2 w w' x pb rb ∧ WRow W.heap.size w' (.slice p (ofT x.tn (pushD [] x).2).length c) (ofT x.tn (pushD [] x).2)) := by
  obtain ⟨S, h1⟩ := h.p
  refine (list_any h1 x.tn).mono ?_
  rintro e w' ⟨p, c, he, h2⟩
  exact ⟨p, c, he, h.step h2.out.2, h2.out.1⟩
theorem t22 {b p1 : Nat} {v1 : Value} (h : T2 w W x pb rb) (h1 : WRow b W v1 (ofT x.tn (pushD [] x).2)) (_ : p1 = 0) : Calls Try.prog 22 #[.pointer (some ⟨rb, 0, none⟩), .string ⟨⟨x.tn⟩⟩] W fun e w' => ∃ p c, e = .returned (.slice p (ofT x.tn (pushD [] x).2).length c) ∧ Hid (KB w w' x ∧ WRow b w' v1 (ofT x.tn (pushD [] x).2) ∧ RRow W.heap.size w' (.slice p (ofT x.tn (pushD [] x).2).length c) (ofT x.tn (pushD [] x).2)) := by
  obtain ⟨q, n, c, h2, h3⟩ := h.r
  refine (rlist_any W rb n c q _ x.tn h2 h3 (by have := len1 x; show _ ≤ _; omega)).mono ?_
  rintro e w' ⟨p, c', he, h4⟩
  exact ⟨p, c', he, h.k.step h4.out.2, h1.below h4.out.2, h4.out.1⟩
end
set_option maxHeartbeats 4000000 in
set_option maxRecDepth 100000 in
theorem nil_law (x : J) (hz : x.tn.length ≤ 281474976710656) (w : World) :
    Calls Try.prog 7 #[.agg #[.int .i64 x.job, .string ⟨⟨x.tn⟩⟩, .int .i64 x.pr]] w fun e w' => e = .returned (.bool true) ∧ Below w.heap.size w w' := by
  have K0 : Hid (KB w (w.alloc (.cells #[.int .i64 x.job, .string ⟨⟨x.tn⟩⟩, .int .i64 x.pr] 32)) x) := ⟨(Below.refl _ w).alloc (Nat.le_refl _) _, new0⟩
  have HX : Hid (x.tn.length ≤ 281474976710656) := hz
  clear hz
  have H18 : Hid (∀ W, Calls Try.prog 18 #[.pointer none, .int .i64 x.job] W fun e w' => e = .returned (.tuple #[.agg #[.int .i64 0, .string ⟨#[]⟩, .int .i64 0], .int .i64 3]) ∧ Hid (Below W.heap.size W w')) := fun W => get_nilq W _
  have H15 : Hid (∀ W, Calls Try.prog 15 #[.pointer none, .string ⟨⟨x.tn⟩⟩] W fun e w' => e = .returned (.tuple #[.agg #[.int .i64 0, .string ⟨#[]⟩, .int .i64 0], .int .i64 3]) ∧ Hid (Below W.heap.size W w')) := fun W => head_nil W _
  have H17 : Hid (∀ W, Calls Try.prog 17 #[.pointer none] W fun e w' => e = .returned (.tuple #[.int .i64 0, .slice none 0 0]) ∧ w' = W) := top_nilq
  have H12 : Hid (∀ W, Calls Try.prog 12 #[.pointer none, .agg #[.int .i64 x.job, .string ⟨⟨x.tn⟩⟩, .int .i64 x.pr]] W fun e w' => e = .returned (.int .i64 10) ∧ Hid (Below W.heap.size W w')) := fun W => push_nilq W _ _ _
  have H16 : Hid (∀ W, Calls Try.prog 16 #[.pointer none, .int .i64 x.job] W fun e w' => e = .returned (.int .i64 3) ∧ w' = W) := fun W => rem_nilq W _
  have H14 : Hid (∀ W, Calls Try.prog 14 #[.pointer none, .string ⟨⟨x.tn⟩⟩] W fun e w' => e = .returned (.slice none 0 0) ∧ Hid (Below W.heap.size W w')) := fun W => list_nil W _
  have H13 : Hid (∀ W, Calls Try.prog 13 #[.pointer none] W fun e w' => e = .returned (.slice none 0 0) ∧ w' = W) := ten_nilq
  have H11 : Hid (∀ W, Calls Try.prog 11 #[.pointer none] W fun e w' => e = .returned (.int .i64 0) ∧ w' = W) := qlen_nil
  have H8 := awakeQ (w.alloc (.cells #[.int .i64 x.job, .string ⟨⟨x.tn⟩⟩, .int .i64 x.pr] 32))
  go_enter Try.func7, Try.ntmps7
  go_upto_region 4 with (go_at_call 8; refine H8.mono ?_; rintro e w1 ⟨rfl, h1⟩)
  have K1 : Hid (KB w w1 x) := K0.out.step h1.out
  obtain ⟨a0, a1, a2⟩ := K1.out.cells
  have al := K1.out.lt
  clear h1 K0 H8
  go_upto_region 5 with (go_at_call 18; refine (H18.out _).mono ?_; rintro e w2 ⟨rfl, h2⟩)
  have K2 : Hid (KB w (w2.alloc (.cells #[.int .i64 0, .string ⟨#[]⟩, .int .i64 0] 32)) x) := (K1.out.step h2.out).alloc _
  clear a0 a1 a2 al h2 K1 H18
  generalize w2.alloc (.cells #[.int .i64 0, .string ⟨#[]⟩, .int .i64 0] 32) = V2 at *
  generalize w2.heap.size = v2 at *
  obtain ⟨a0, a1, a2⟩ := K2.out.cells
  have al := K2.out.lt
  go_upto_region 6 with (go_at_call 15; refine (H15.out _).mono ?_; rintro e w3 ⟨rfl, h3⟩)
  have K3 : Hid (KB w (w3.alloc (.cells #[.int .i64 0, .string ⟨#[]⟩, .int .i64 0] 32)) x) := (K2.out.step h3.out).alloc _
  clear a0 a1 a2 al h3 K2 H15
  generalize w3.alloc (.cells #[.int .i64 0, .string ⟨#[]⟩, .int .i64 0] 32) = V3 at *
  generalize w3.heap.size = v3 at *
  obtain ⟨a0, a1, a2⟩ := K3.out.cells
  have al := K3.out.lt
  go_upto_region 9 with (first
    | (go_at_call 17; refine (H17.out _).mono ?_; rintro e w4 ⟨rfl, h4⟩; obtain rfl := h4.symm)
    | (go_at_call 12; refine (H12.out _).mono ?_; rintro e w5 ⟨rfl, h5⟩; have K5 := K3.out.step h5.out; obtain ⟨a05, a15, a25⟩ := K5.cells; have al5 := K5.lt)
    | (go_at_call 16; refine (H16.out _).mono ?_; rintro e w6 ⟨rfl, h6⟩; obtain rfl := h6.symm)
    | (go_at_call 14; refine (H14.out _).mono ?_; rintro e w7 ⟨rfl, h7⟩)
    | (go_at_call 13; refine (H13.out _).mono ?_; rintro e w8 ⟨rfl, h8⟩; obtain rfl := h8.symm)
    | (go_at_call 11; refine (H11.out _).mono ?_; rintro e w9 ⟨rfl, h9⟩; obtain rfl := h9.symm))
  have K7 : Hid (KB w ((w7.alloc (.cells #[.map none, .map none] 54)).alloc (.cells #[.slice none 0 0] 29)) x) := ((K5.step h7.out).alloc _).alloc _
  have hb7 : Hid (w.heap.size < w7.heap.size) := (K5.step h7.out).lt
  clear a0 a1 a2 al h4 h5 K5 a05 a15 a25 al5 h6 h7 h8 h9 H17 H12 H16 H14 H13 H11 K3
  go_upto_region 11 with fail
  have HP : Hid (((w7.alloc (.cells #[.map none, .map none] 54)).alloc (.cells #[.slice none 0 0] 29)).heap[w7.heap.size]? = some (.cells #[.map none, .map none] 54 (0, 0)) ∧ ((w7.alloc (.cells #[.map none, .map none] 54)).alloc (.cells #[.slice none 0 0] 29)).heap[w7.heap.size + 1]? = some (.cells #[.slice none 0 0] 29 (0, 0)) ∧ (w7.heap.size + 1 ≠ w7.heap.size ∧ w.heap.size ≤ w7.heap.size + 1 ∧ w.heap.size ≠ w7.heap.size + 1 ∧ w.heap.size < w7.heap.size)) := ⟨first0, new1, by have := hb7.out; omega⟩
  generalize (w7.alloc (.cells #[.map none, .map none] 54)).alloc (.cells #[.slice none 0 0] 29) = V at *
  generalize w7.heap.size + 1 = rb at *
  generalize w7.heap.size = pb at *
  have X12 : Hid (Calls Try.prog 12 #[.pointer (some ⟨pb, 0, none⟩), .agg #[.int .i64 x.job, .string ⟨⟨x.tn⟩⟩, .int .i64 x.pr]] (V.drewN 1) fun e w' => e = .returned (.int .i64 (pushD [] x).1) ∧ Hid (T1 w (V.drewN 1) w' x pb rb)) := t12 HX.out (K7.out.step (below_drewN (Below.refl _ _) 1)) HP.out.1 HP.out.2.1 HP.out.2.2
  have X20 : Hid (∀ (W : World), Calls Try.prog 20 #[.agg #[.int .i64 x.job, .string ⟨⟨x.tn⟩⟩, .int .i64 x.pr]] W fun e w' => e = .returned (.agg #[.int .i64 x.job, .string ⟨⟨x.tn⟩⟩, .int .i64 x.pr]) ∧ Hid (Below W.heap.size W w')) := fun W => plain_any W _ _ _
  have X19 : Hid (∀ W, T1 w (V.drewN 1) W x pb rb → Calls Try.prog 19 #[.pointer (some ⟨rb, 0, none⟩), .agg #[.int .i64 x.job, .string ⟨⟨x.tn⟩⟩, .int .i64 x.pr]] W fun e w' => e = .returned (.int .i64 (pushD [] x).1) ∧ Hid (T2 w w' x pb rb)) := fun W h => t19 h
  obtain ⟨L, hL⟩ : ∃ L, L = ofT x.tn (pushD [] x).2 := ⟨_, rfl⟩
  obtain ⟨n, hn⟩ : ∃ n, n = (ofT x.tn (pushD [] x).2).length := ⟨_, rfl⟩
  have X14 : Hid (∀ W, T2 w W x pb rb → Calls Try.prog 14 #[.pointer (some ⟨pb, 0, none⟩), .string ⟨⟨x.tn⟩⟩] W fun e w' => ∃ p c, e = .returned (.slice p n c) ∧ Hid (T2 w w' x pb rb ∧ WRow W.heap.size w' (.slice p n c) L)) := fun W h => by rw [hL, hn]; exact t14 h
  have X22 : Hid (∀ W b v1, T2 w W x pb rb → WRow b W v1 L → Calls Try.prog 22 #[.pointer (some ⟨rb, 0, none⟩), .string ⟨⟨x.tn⟩⟩] W fun e w' => ∃ p c, e = .returned (.slice p n c) ∧ Hid (KB w w' x ∧ WRow b w' v1 L ∧ RRow W.heap.size w' (.slice p n c) L)) := fun W b v1 h h1 => by rw [hL] at h1 ⊢; rw [hn]; exact t22 (p1 := 0) h h1 rfl
  have X21 : Hid (∀ W b1 b2 p c p2 c2, KB w W x → WRow b1 W (.slice p n c) L → RRow b2 W (.slice p2 n c2) L → Calls Try.prog 21 #[.slice p n c, .slice p2 n c2] W fun e w' => e = .returned (.bool true) ∧ Hid (KB w w' x)) := fun W b1 b2 p c p2 c2 hk h1 h2 => by
    have h3 := List.length_filter_le (fun a : J => a.tn == x.tn) (pushD [] x).2
    have h4 := len1 x
    have h5 : n ≤ 1000000 := by rw [hn]; unfold ofT; omega
    exact (same_any W n c c2 b1 b2 p p2 L h1 h2 h5).mono fun e w' ⟨he, hb⟩ => ⟨he, hk.step hb.out⟩
  clear hL hn HP hb7
  have KC : Hid (∀ W, KB w W x → W.cell? ⟨w.heap.size, 0, none⟩ = some (.int .i64 x.job) ∧ W.cell? ⟨w.heap.size, 1, none⟩ = some (.string ⟨⟨x.tn⟩⟩) ∧ W.cell? ⟨w.heap.size, 2, none⟩ = some (.int .i64 x.pr)) := fun W h => h.cells
  have KE : Hid (∀ W, KB w W x → Below w.heap.size w W) := fun W h => h.1
  have TK1 : Hid (∀ W, T1 w (V.drewN 1) W x pb rb → KB w W x) := fun W h => h.k
  have TK2 : Hid (∀ W, T2 w W x pb rb → KB w W x) := fun W h => h.k
  have zz := KC.out _ K7.out
  have zd := KC.out (V.drewN 1) (K7.out.step (below_drewN (Below.refl _ _) 1))
  generalize (pushD [] x).1 = r at *
  go_region_held3 (fun W : World => W.cell? ⟨w.heap.size, 0, none⟩ = some (.int .i64 x.job) ∧ W.cell? ⟨w.heap.size, 1, none⟩ = some (.string ⟨⟨x.tn⟩⟩) ∧ W.cell? ⟨w.heap.size, 2, none⟩ = some (.int .i64 x.pr)) (first | (with_reducible assumption) | (exact zd) | (exact zz) | go_keep) (first
    | (go_at_call 12; refine X12.out.mono ?_; rintro e wA ⟨rfl, hA⟩; have zz := KC.out _ (TK1.out _ hA.out))
    | (go_at_call 20; refine (X20.out _).mono ?_; rintro e wB ⟨rfl, hB⟩; have tB := hA.out.step hB.out; have zz := KC.out _ (TK1.out _ tB))
    | (go_at_call 19; refine (X19.out _ tB).mono ?_; rintro e wC ⟨rfl, hC⟩; have zz := KC.out _ (TK2.out _ hC.out))
    | (go_at_call 14; refine (X14.out _ hC.out).mono ?_; rintro e wD ⟨p, c, rfl, hD⟩; have zz := KC.out _ (TK2.out _ hD.out.1))
    | (go_at_call 22; refine (X22.out _ _ _ hD.out.1 hD.out.2).mono ?_; rintro e wE ⟨p2, c2, rfl, hE⟩; have zz := KC.out _ hE.out.1)
    | (go_at_call 21; refine (X21.out _ _ _ _ _ _ _ hE.out.1 hE.out.2.1 hE.out.2.2).mono ?_; rintro e wF ⟨rfl, hF⟩; have zz := KC.out _ hF.out))
  all_goals go_wp2_with fail
  all_goals go_ret
  all_goals exact ⟨by simp, KE.out _ hF.out⟩
end Go.Proofs.Ythlbeofonbbbdaa
