/-
  MinmaxPlays: told; each kind of call on both sides.
-/
import Derived.Test.YtbaffgkopgbknaaZi
namespace Go.Proofs.Ytbaffgkopgbknaa
open Go.RowKit Go.Maps

set_option maxHeartbeats 1000000 in
theorem told_any (n e : Int) (k : K) (w : World) : Calls Try.prog 24 #[.int .i64 n, .agg #[.int .i64 k.a, .int .i64 k.b, .int .i64 k.c], .int .i64 e, .int .i64 n, .agg #[.int .i64 k.a, .int .i64 k.b, .int .i64 k.c], .int .i64 e] w fun r w' => r = .returned (.bool true) ∧ Below w.heap.size w w' := by
  have q45 := eq45s
  go_enter Try.func24, Try.ntmps24
  go_wp2_with fail
  go_ret
  exact ⟨rfl, by go_grown⟩
/-- an op's box -/
def ob (kd x : Int) (k : K) : Array Value := #[.int .i64 kd, .int .i64 x, .int .i64 k.a, .int .i64 k.b, .int .i64 k.c]
def NoP : Nat → Prop := fun _ => False
section
variable {w0 w w' : World} {hb rb bx : Nat} {l : List RE} {k : K} {x kd : Int}
/-- both heaps and the op's box -/
structure Bo9 (w0 w : World) (hb rb bx : Nat) (l : List RE) (kd x : Int) (k : K) : Prop where
  t : Bt w0 w hb rb l (fun j => j = bx)
  z : w.heap[bx]? = some (.cells (ob kd x k) 34 (0, 0))
  ok : k.ok
  wf : (Lit.int .i64 x).wf = true
  n : l.length < 1048576
theorem st1 (h : Bo9 w0 w hb rb bx l kd x k) : Calls Try.prog 12 #[.pointer (some ⟨hb, 0, none⟩), .agg #[.int .i64 k.a, .int .i64 k.b, .int .i64 k.c]] w fun e w2 => e = .returned (.tuple #[.int .i64 l.length, .int .i64 0]) ∧ Hid (w2.heap[bx]? = some (.cells (ob kd x k) 34 (0, 0)) ∧ Calls Try.prog 22 #[.pointer (some ⟨rb, 0, none⟩), .agg #[.int .i64 k.a, .int .i64 k.b, .int .i64 k.c]] w2 fun e w3 => e = .returned (.tuple #[.int .i64 l.length, .int .i64 0]) ∧ Hid (Bt w0 w3 hb rb (l ++ [⟨k, true⟩]) NoP)) := by
  obtain ⟨S, v, h1, h2, h3, h4⟩ := h.t.ex
  refine (insert_C h1 k h.ok h.n).mono ?_
  rintro e w2 ⟨rfl, S', g1, g2⟩
  obtain ⟨b1, b2⟩ := Bm.left h.t h2 h3 h4 g1 g2
  refine ⟨rfl, (b2 bx rfl).trans h.z, ?_⟩
  refine (bm_rins b1 k h.ok h.n).mono ?_
  rintro e w3 ⟨rfl, b3, _⟩
  refine ⟨rfl, ?_⟩
  have := b3.less (T' := NoP) nofun
  unfold Hid Bt
  rw [rcont_push, rcount_push, List.length_append]
  exact this
theorem stP (h : Bo9 w0 w hb rb bx l kd x k) (gr : Bool) : ∃ (y : Nat) (k1 : K) (ee : Int) (l' : List RE), l'.length = l.length ∧ Calls Try.prog (fnP (sOf gr)) #[.pointer (some ⟨hb, 0, none⟩)] w fun e w2 => e = .returned (.tuple #[.int .i64 y, .agg #[.int .i64 k1.a, .int .i64 k1.b, .int .i64 k1.c], .int .i64 ee]) ∧ Hid (∀ w3, w3 = w2.alloc (.cells (kc k1) 32) → Calls Try.prog 23 #[.pointer (some ⟨rb, 0, none⟩), .bool gr] w3 fun e w4 => e = .returned (.tuple #[.int .i64 y, .agg #[.int .i64 k1.a, .int .i64 k1.b, .int .i64 k1.c], .int .i64 ee]) ∧ Hid (w4.heap[w2.heap.size]? = some (.cells (kc k1) 32 (0, 0)) ∧ Bt w0 w4 hb rb l' NoP)) := by
  have hs : sOf gr ≤ 1 := by unfold sOf; split <;> decide
  obtain ⟨S, v, h1, h2, h3, h4⟩ := h.t.ex
  have hle : l.length ≤ 1048576 := Nat.le_of_lt h.n
  by_cases hz : rcount l = 0
  · have hz1 := h1
    rw [hz] at hz1
    refine ⟨0, kz, 3, l, rfl, (pop_0 hz1 hs).mono ?_⟩
    rintro e w2 ⟨rfl, b⟩
    refine ⟨rfl, fun w3 e3 => ?_⟩
    subst e3
    have t3 : Bt w0 (w2.alloc (.cells (kc kz) 32)) hb rb l (fun j => j = bx ∨ j = w2.heap.size) := (Bm.below h.t b).box (.cells (kc kz) 32)
    have hno : ∀ y, rcont l y = none := by
      have := h.t
      unfold Bt at this
      rw [hz] at this
      exact this.none
    refine (rpop_none (fun w4 b4 => ?_)).mono ?_
    · refine (bm_rend (Bm.below t3 b4) hle gr).mono ?_
      rintro e w5 ⟨he, b5⟩
      exact ⟨ea_zero he hno, b5⟩
    · rintro e w4 ⟨rfl, b4⟩
      exact ⟨rfl, at_below b4 (Nat.le_refl _) new0, (Bm.below t3 b4).less nofun⟩
  · obtain ⟨y, k1, g1, g2⟩ := pop_C h1 hz hs
    have okr : ∀ (y : Nat) k', rcont l y = some k' → k'.ok ∧ y < 1048576 := fun y k' q => Bm.okC h.t q
    have hly : l[y]? = some ⟨k1, true⟩ := by
      obtain ⟨j, e1, e2⟩ := rcont_some g1.1
      have : y = j := by omega
      rw [this]; exact e2
    refine ⟨y, k1, 0, l.set y re0, List.length_set, g2.mono ?_⟩
    rintro e w2 ⟨rfl, S', g3, g4⟩
    obtain ⟨b1, b2⟩ := Bm.left h.t h2 h3 h4 g3 g4
    refine ⟨rfl, fun w3 e3 => ?_⟩
    subst e3
    have t3 := b1.box (.cells (kc k1) 32)
    obtain ⟨S3, v3, f1, f2, f3, f4⟩ := t3.ex
    refine (rpop_some f2 y _ k1 hly (fun w4 b4 => ?_)).mono ?_
    · refine (bm_rend (t3.below b4) hle gr).mono ?_
      rintro e w5 ⟨he, b5⟩
      exact ⟨(ea_one he hs g1 okr).1, b5⟩
    · rintro e w4 ⟨rfl, R, kp⟩
      obtain ⟨r1, r2⟩ := t3.right f1 f3 f4 R (set_ok t3.ok kz_ok') (kp.mono fun _ _ q => .inr q) fun _ q => .inl q
      refine ⟨rfl, (r2 _ (.inr rfl)).trans new0, ?_⟩
      unfold Bt
      rw [rcont_del hly, rcount_del hly, List.length_set]
      exact r1.less nofun
theorem st6 (h : Bo9 w0 w hb rb bx l kd x k) : ∃ (ee : Int) (l' : List RE), l'.length = l.length ∧ Calls Try.prog 17 #[.pointer (some ⟨hb, 0, none⟩), .int .i64 x, .agg #[.int .i64 k.a, .int .i64 k.b, .int .i64 k.c]] w fun e w2 => e = .returned (.int .i64 ee) ∧ Hid (w2.heap[bx]? = some (.cells (ob kd x k) 34 (0, 0)) ∧ Calls Try.prog 25 #[.pointer (some ⟨rb, 0, none⟩), .int .i64 x, .agg #[.int .i64 k.a, .int .i64 k.b, .int .i64 k.c]] w2 fun e w3 => e = .returned (.int .i64 ee) ∧ Hid (w3.heap[bx]? = some (.cells (ob kd x k) 34 (0, 0)) ∧ Bt w0 w3 hb rb l' NoP)) := by
  obtain ⟨S, v, h1, h2, h3, h4⟩ := h.t.ex
  cases hc : rcont l x with
  | none =>
    refine ⟨3, l, rfl, (upd_C0 h1 h.wf hc k).mono ?_⟩
    rintro e w2 ⟨rfl, b⟩
    have t2 := Bm.below h.t b
    refine ⟨rfl, at_below b (Nat.le_refl _) h.z, (bm_rupd0 t2 x k hc).mono ?_⟩
    rintro e w3 ⟨rfl, b3⟩
    exact ⟨rfl, at_below b3 (Nat.le_refl _) (at_below b (Nat.le_refl _) h.z), (Bm.below t2 b3).less nofun⟩
  | some o =>
    obtain ⟨j, e1, e2⟩ := rcont_some hc
    obtain ⟨y, ey, g⟩ := upd_C h1 h.wf hc k h.ok
    have hyj : y = j := by omega
    subst hyj
    refine ⟨0, l.set y ⟨k, true⟩, List.length_set, g.mono ?_⟩
    rintro e w2 ⟨rfl, S', g1, g2⟩
    obtain ⟨b1, b2⟩ := Bm.left h.t h2 h3 h4 g1 g2
    refine ⟨rfl, (b2 bx rfl).trans h.z, ?_⟩
    rw [e1]
    refine (bm_rupd b1 e2 k h.ok).mono ?_
    rintro e w3 ⟨rfl, b3, b4⟩
    refine ⟨rfl, (b4 bx rfl).trans (by rw [← e1]; exact (b2 bx rfl).trans h.z), ?_⟩
    unfold Bt
    rw [rcont_upd e2, rcount_upd e2, List.length_set]
    exact b3.less nofun
theorem st7 (h : Bo9 w0 w hb rb bx l kd x k) : ∃ (ee : Int) (l' : List RE), l'.length = l.length ∧ Calls Try.prog 21 #[.pointer (some ⟨hb, 0, none⟩), .int .i64 x] w fun e w2 => e = .returned (.int .i64 ee) ∧ Hid (w2.heap[bx]? = some (.cells (ob kd x k) 34 (0, 0)) ∧ Calls Try.prog 26 #[.pointer (some ⟨rb, 0, none⟩), .int .i64 x] w2 fun e w3 => e = .returned (.int .i64 ee) ∧ Hid (w3.heap[bx]? = some (.cells (ob kd x k) 34 (0, 0)) ∧ Bt w0 w3 hb rb l' NoP)) := by
  obtain ⟨S, v, h1, h2, h3, h4⟩ := h.t.ex
  cases hc : rcont l x with
  | none =>
    refine ⟨3, l, rfl, (rem_C0 h1 h.wf hc).mono ?_⟩
    rintro e w2 ⟨rfl, rfl⟩
    refine ⟨rfl, h.z, (bm_rrem0 h.t x hc).mono ?_⟩
    rintro e w3 ⟨rfl, b3⟩
    exact ⟨rfl, at_below b3 (Nat.le_refl _) h.z, (Bm.below h.t b3).less nofun⟩
  | some o =>
    obtain ⟨j, e1, e2⟩ := rcont_some hc
    obtain ⟨y, ey, g⟩ := rem_C h1 h.wf hc
    have hyj : y = j := by omega
    subst hyj
    refine ⟨0, l.set y re0, List.length_set, g.mono ?_⟩
    rintro e w2 ⟨rfl, S', g1, g2⟩
    obtain ⟨b1, b2⟩ := Bm.left h.t h2 h3 h4 g1 g2
    refine ⟨rfl, (b2 bx rfl).trans h.z, ?_⟩
    rw [e1]
    refine (bm_rrem b1 e2 (Nat.le_of_lt h.n)).mono ?_
    rintro e w3 ⟨rfl, b3, b4⟩
    refine ⟨rfl, (b4 bx rfl).trans (by rw [← e1]; exact (b2 bx rfl).trans h.z), ?_⟩
    unfold Bt
    rw [rcont_del e2, rcount_del e2, List.length_set]
    exact b3.less nofun
theorem st8 (h : Bo9 w0 w hb rb bx l kd x k) : ∃ (k1 : K) (ee : Int), Calls Try.prog 18 #[.pointer (some ⟨hb, 0, none⟩), .int .i64 x] w fun e w2 => e = .returned (.tuple #[.agg #[.int .i64 k1.a, .int .i64 k1.b, .int .i64 k1.c], .int .i64 ee]) ∧ Hid (∀ w3, w3 = w2.alloc (.cells (kc k1) 32) → w3.heap[bx]? = some (.cells (ob kd x k) 34 (0, 0)) ∧ Calls Try.prog 27 #[.pointer (some ⟨rb, 0, none⟩), .int .i64 x] w3 fun e w4 => e = .returned (.tuple #[.agg #[.int .i64 k1.a, .int .i64 k1.b, .int .i64 k1.c], .int .i64 ee]) ∧ Hid (w4.heap[w2.heap.size]? = some (.cells (kc k1) 32 (0, 0)) ∧ Bt w0 w4 hb rb l NoP)) := by
  obtain ⟨S, v, h1, h2, h3, h4⟩ := h.t.ex
  have key : ∀ (k1 : K) (w2 : World), Below w.heap.size w w2 → ∀ w4, Below (w2.alloc (.cells (kc k1) 32)).heap.size (w2.alloc (.cells (kc k1) 32)) w4 → w4.heap[w2.heap.size]? = some (.cells (kc k1) 32 (0, 0)) ∧ Bt w0 w4 hb rb l NoP := fun k1 w2 b w4 b4 => ⟨at_below b4 (Nat.le_refl _) new0, (Bm.below ((Bm.below h.t b).box (.cells (kc k1) 32)) b4).less nofun⟩
  cases hc : rcont l x with
  | none =>
    refine ⟨kz, 3, (get_C0 h1 h.wf hc).mono ?_⟩
    rintro e w2 ⟨rfl, b⟩
    refine ⟨rfl, fun w3 e3 => ?_⟩
    subst e3
    refine ⟨at_alloc (at_below b (Nat.le_refl _) h.z), ?_⟩
    have := bm_rget ((Bm.below h.t b).box (.cells (kc kz) 32)) x
    rw [hc] at this
    refine this.mono ?_
    rintro e w4 ⟨rfl, b4⟩
    exact ⟨rfl, key kz w2 b w4 b4⟩
  | some o =>
    refine ⟨o, 0, (get_C h1 h.wf hc).mono ?_⟩
    rintro e w2 ⟨rfl, b⟩
    refine ⟨rfl, fun w3 e3 => ?_⟩
    subst e3
    refine ⟨at_alloc (at_below b (Nat.le_refl _) h.z), ?_⟩
    have := bm_rget ((Bm.below h.t b).box (.cells (kc o) 32)) x
    rw [hc] at this
    refine this.mono ?_
    rintro e w4 ⟨rfl, b4⟩
    exact ⟨rfl, key o w2 b w4 b4⟩
/-- both ends alike -/
theorem stE {T : Nat → Prop} (h : Bt w0 w hb rb l T) (hn : l.length < 1048576) (gr : Bool) : ∃ (y : Nat) (k1 : K) (ee : Int), (∀ w1, Below w.heap.size w w1 → Calls Try.prog (fnM (sOf gr)) #[.pointer (some ⟨hb, 0, none⟩)] w1 fun e w2 => e = .returned (.tuple #[.int .i64 y, .agg #[.int .i64 k1.a, .int .i64 k1.b, .int .i64 k1.c], .int .i64 ee]) ∧ Below w1.heap.size w1 w2) ∧ ∀ w1, Below w.heap.size w w1 → Calls Try.prog 28 #[.pointer (some ⟨rb, 0, none⟩), .bool gr] w1 fun e w2 => e = .returned (.tuple #[.int .i64 y, .agg #[.int .i64 k1.a, .int .i64 k1.b, .int .i64 k1.c], .int .i64 ee]) ∧ Below w1.heap.size w1 w2 := by
  have hs : sOf gr ≤ 1 := by unfold sOf; split <;> decide
  obtain ⟨S, v, h1, h2, h3, h4⟩ := h.ex
  have hle : l.length ≤ 1048576 := Nat.le_of_lt hn
  by_cases hz : rcount l = 0
  · have hz1 := h1
    rw [hz] at hz1
    have hno : ∀ y, rcont l y = none := by
      have := h
      unfold Bt at this
      rw [hz] at this
      exact this.none
    refine ⟨0, kz, 3, fun w1 b1 => ends_0 (hz1.below b1) hs, fun w1 b1 => (bm_rend (Bm.below h b1) hle gr).mono ?_⟩
    rintro e w2 ⟨he, b2⟩
    exact ⟨ea_zero he hno, b2⟩
  · have okr : ∀ (y : Nat) k', rcont l y = some k' → k'.ok ∧ y < 1048576 := fun y k' q => Bm.okC h q
    obtain ⟨y, k1, g1, _⟩ := ends_C h1 hz hs
    refine ⟨y, k1, 0, fun w1 b1 => ?_, fun w1 b1 => (bm_rend (Bm.below h b1) hle gr).mono ?_⟩
    · obtain ⟨y', k', g2, g3⟩ := ends_C (h1.below b1) hz hs
      obtain ⟨rfl, rfl⟩ := ext_same hs g2 g1 (okr _ _ g2.1).1 (okr _ _ g1.1).1 (okr _ _ g2.1).2 (okr _ _ g1.1).2
      exact g3
    · rintro e w2 ⟨he, b2⟩
      exact ⟨(ea_one he hs g1 okr).1, b2⟩
theorem stL {T : Nat → Prop} (h : Bt w0 w hb rb l T) (hn : l.length < 1048576) : (Calls Try.prog 16 #[.pointer (some ⟨hb, 0, none⟩)] w fun e w2 => e = .returned (.int .i64 (rcount l : Nat)) ∧ w2 = w) ∧ Calls Try.prog 29 #[.pointer (some ⟨rb, 0, none⟩)] w fun e w2 => e = .returned (.int .i64 (rcount l : Nat)) ∧ w2 = w := by
  obtain ⟨S, v, h1, h2, h3, h4⟩ := h.ex
  exact ⟨len_C h1, rlen_any h2 (Nat.le_of_lt hn)⟩
end
end Go.Proofs.Ytbaffgkopgbknaa
