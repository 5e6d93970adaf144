/-
  A queue in a law.
-/
import Derived.Test.YthlbeofonbbbdaaQt
import Derived.Test.YthlbeofonbbbdaaLa
namespace Go.Proofs.Ythlbeofonbbbdaa
open Go.RowKit Go.Maps Go.WideMaps

def XS (X : Nat → Option Obj) (g : Nat) (o : Obj) : Nat → Option Obj := fun k => if k = g then some o else X k
/-- a queue in a law; X: blocks that are kept -/
structure LQ (w W : World) (X : Nat → Option Obj) (pb : Nat) (D : List J) (N : Nat) : Prop where
  bel : Below w.heap.size w W
  q : ∃ S, Que W S pb D N ∧ ∀ k, S k → w.heap.size ≤ k ∧ X k = none
  kept : ∀ k o, X k = some o → W.heap[k]? = some o
  sm : ∀ y ∈ D, y.tn.length ≤ 281474976710656
section
variable {w W W' : World} {X : Nat → Option Obj} {pb N : Nat} {D D' : List J} {x : J}
theorem LQ.below (h : LQ w W X pb D N) (b : Below W.heap.size W W') : LQ w W' X pb D N := by
  obtain ⟨S, h1, h2⟩ := h.q
  exact ⟨h.bel.trans (b.mono h.bel.size), ⟨S, h1.keepB b, h2⟩, fun k o e => at_below b (Nat.le_refl _) (h.kept k o e), h.sm⟩
theorem LQ.turn (h : LQ w W X pb D N) {S : Nat → Prop} (h2 : ∀ k, S k → w.heap.size ≤ k ∧ X k = none) {N' : Nat} (hp : PuR W W' S pb D' N') (hs : ∀ y ∈ D', y.tn.length ≤ 281474976710656) : LQ w W' X pb D' N' := by
  obtain ⟨S', k1, k2, k3⟩ := hp
  have hz := h.bel.size
  refine ⟨h.bel.trans (k2.below hz fun k hk e => by have := (h2 k e).1; omega), ⟨S', k1, fun k hk => ?_⟩, fun k o e => ?_, hs⟩
  · rcases k3 k hk with q | q
    · exact h2 k q
    · refine ⟨by omega, ?_⟩
      cases e : X k with
      | none => rfl
      | some o => have := (Array.getElem?_eq_some_iff.1 (h.kept k o e)).1; omega
  · have := h.kept k o e
    exact (k2.block k (Array.getElem?_eq_some_iff.1 this).1 fun e2 => by rw [(h2 k e2).2] at e; cases e).trans this
theorem LQ.add (h : LQ w W X pb D N) (b : Below W.heap.size W W') {g : Nat} {o : Obj} (hg : W'.heap[g]? = some o) (hge : W.heap.size ≤ g) : LQ w W' (XS X g o) pb D N := by
  have h' := h.below b
  obtain ⟨S, h1, h2⟩ := h.q
  refine ⟨h'.bel, ⟨S, h1.keepB b, fun k hk => ⟨(h2 k hk).1, ?_⟩⟩, fun k o' e => ?_, h.sm⟩
  · have := h1.2 k hk
    unfold XS
    rw [if_neg (by omega)]
    exact (h2 k hk).2
  · unfold XS at e
    split at e
    · rename_i e2
      rw [e2, hg, Option.some.inj e]
    · exact h'.kept k o' e
theorem LQ.row (h : LQ w W X pb D N) {v : Value} {l : List J} (hr : WRow W.heap.size W' v l) (hb : Below W.heap.size W W') : ∃ X', LQ w W' X' pb D N ∧ (∀ k o, k < W.heap.size → X k = some o → X' k = some o) ∧ ∀ V D' N', LQ w V X' pb D' N' → WRow W.heap.size V v l := by
  rcases hr.2 with ⟨rfl, h0⟩ | ⟨g, cap, cur, rfl, hge, hg, h1, h2, h3, h4⟩
  · exact ⟨X, h.below hb, fun _ _ _ e => e, fun V D' N' _ => ⟨hr.1, .inl ⟨rfl, h0⟩⟩⟩
  · refine ⟨XS X g (.cells cur 32 (0, 0)), h.add hb hg hge, fun k o hk e => ?_, fun V D' N' hl => ⟨hr.1, .inr ⟨g, cap, cur, rfl, hge, hl.kept g _ (if_pos rfl), h1, h2, h3, h4⟩⟩⟩
    unfold XS
    rw [if_neg (by omega)]
    exact e
theorem l_new (b : Below w.heap.size w W) (hk : ∀ k o, X k = some o → W.heap[k]? = some o) : LQ w (W.alloc (.cells #[.map none, .map none] 54 (0, 0))) X W.heap.size [] N := by
  have b0 : Below W.heap.size W (W.alloc (.cells #[.map none, .map none] 54 (0, 0))) := (Below.refl _ W).alloc (Nat.le_refl _) _
  refine ⟨b.trans (b0.mono b.size), ⟨(· = W.heap.size), que_zero new0 N, fun k e => ?_⟩, fun k o e => at_below b0 (Nat.le_refl _) (hk k o e), (fun _ h => nomatch h)⟩
  have e' : k = W.heap.size := e
  refine ⟨by have := b.size; omega, ?_⟩
  cases q : X k with
  | none => rfl
  | some o => have := (Array.getElem?_eq_some_iff.1 (hk k o q)).1; omega
theorem l_push (h : LQ w W X pb D N) (hz : x.tn.length ≤ 281474976710656) (hN : N < 1048576) : Calls Try.prog 12 #[.pointer (some ⟨pb, 0, none⟩), .agg #[.int .i64 x.job, .string ⟨⟨x.tn⟩⟩, .int .i64 x.pr]] W fun e w' => e = .returned (.int .i64 (pushD D x).1) ∧ Hid (LQ w w' X pb (pushD D x).2 (N + 1)) := by
  obtain ⟨S, h1, h2⟩ := h.q
  refine (push_any h1 x hz hN).mono fun e w' ⟨he, hp⟩ => ⟨he, h.turn h2 hp.out fun y hy => ?_⟩
  unfold pushD at hy
  split at hy
  · split at hy
    · exact h.sm y hy
    · rcases List.mem_cons.1 ((iJ_perm x D).mem_iff.1 hy) with rfl | q
      · exact hz
      · exact h.sm y q
  · exact h.sm y hy
theorem l_rem (h : LQ w W X pb D N) (x : Int) (hx : wf x) : Calls Try.prog 16 #[.pointer (some ⟨pb, 0, none⟩), .int .i64 x] W fun e w' => e = .returned (.int .i64 (remD D x).1) ∧ Hid (LQ w w' X pb (remD D x).2 N) := by
  obtain ⟨S, h1, h2⟩ := h.q
  refine (rem_any h1 x hx h.sm).mono fun e w' ⟨he, hp⟩ => ⟨he, h.turn h2 hp.out fun y hy => ?_⟩
  unfold remD at hy
  split at hy
  · exact h.sm y (mem_dJ.1 hy).1
  · exact h.sm y hy
theorem l_list (h : LQ w W X pb D N) (t : List UInt8) : Calls Try.prog 14 #[.pointer (some ⟨pb, 0, none⟩), .string ⟨⟨t⟩⟩] W fun e w' => ∃ p c, e = .returned (.slice p (ofT t D).length c) ∧ Hid (WRow W.heap.size w' (.slice p (ofT t D).length c) (ofT t D) ∧ Below W.heap.size W w') := by
  obtain ⟨S, h1, h2⟩ := h.q
  exact list_any h1 t
theorem l_len (h : LQ w W X pb D N) : Calls Try.prog 11 #[.pointer (some ⟨pb, 0, none⟩)] W fun e w' => e = .returned (.int .i64 D.length) ∧ w' = W := by
  obtain ⟨S, h1, h2⟩ := h.q
  exact qlen_any h1
theorem l_get (h : LQ w W X pb D N) (x : Int) (hx : wf x) : Calls Try.prog 18 #[.pointer (some ⟨pb, 0, none⟩), .int .i64 x] W fun e w' => e = ansJ (getD D x) ∧ Below W.heap.size W w' := by
  obtain ⟨S, h1, h2⟩ := h.q
  exact qget_any h1 x hx
theorem LQ.sj (h : LQ w W X pb D N) : SJ D ∧ NJ D ∧ D.length ≤ 101 := by
  obtain ⟨S, ⟨⟨ow, mw, mh, l, q, h1, h2, h3, h4⟩, h5⟩, -⟩ := h.q
  have := jobs_len h1.W.nj h1.W.ok
  exact ⟨h3, nj_perm h1.W.nj h2, by rw [← h2.length_eq, List.length_map]; exact this⟩
/-- what a push that is taken does -/
structure Took (D : List J) (x : J) : Prop where
  wf : wf x.job
  p : (pushD D x).2 = iJ x D
  g : getD (iJ x D) x.job = (x, 0)
  n : (iJ x D).length = D.length + 1
  p2 : pushD (iJ x D) x = (5, iJ x D)
  r : remD (iJ x D) x.job = (0, D)
  r2 : remD D x.job = (3, D)
theorem took (h1 : SJ D) (h2 : NJ D) (hp : (pushD D x).1 = 0) : Took D x := by
  have hx : x.ok = true := by
    cases e : x.ok with
    | true => rfl
    | false => unfold pushD at hp; rw [e] at hp; simp at hp
  have hf : fJ x.job D = none := by
    cases e : fJ x.job D with
    | none => rfl
    | some a => unfold pushD at hp; rw [hx, e] at hp; simp at hp
  have hno := fJ_none hf
  have hs := srt_iJ h1 hno
  have hn : NJ (iJ x D) := nj_perm (D := x :: D) (List.pairwise_cons.2 ⟨fun y hy q => hno y hy q.symm, h2⟩) (iJ_perm x D).symm
  have hm : fJ x.job (iJ x D) = some x := fJ_self hn ((iJ_perm x D).mem_iff.2 (List.mem_cons_self ..))
  have hd : dJ x.job (iJ x D) = D := by
    refine sj_uniq (srt_dJ hs) h1 ?_
    have e : (x :: D).filter (fun a => decide (a.job ≠ x.job)) = D := by
      rw [List.filter_cons_of_neg (by simp)]
      exact List.filter_eq_self.2 fun a ha => by simpa using hno a ha
    have := (iJ_perm x D).filter fun a => decide (a.job ≠ x.job)
    rw [e] at this
    exact this
  refine ⟨wf_ok hx, ?_, ?_, iJ_len x D, ?_, ?_, ?_⟩
  · unfold pushD; rw [hx, hf]; rfl
  · unfold getD; rw [hm]
  · unfold pushD; rw [hx, hm]; rfl
  · unfold remD; rw [hm, hd]
  · unfold remD; rw [hf]
theorem took_not (hp : (pushD D x).1 ≠ 0) : (pushD D x).2 = D := by
  unfold pushD at hp ⊢
  split
  · rename_i hx
    rw [if_pos hx] at hp
    split
    · rfl
    · rename_i e
      rw [e] at hp
      exact absurd rfl hp
  · rfl
end
end Go.Proofs.Ythlbeofonbbbdaa
