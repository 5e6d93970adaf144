/-
  A line of tenants: one heap of their keys.
-/
import Derived.Test.YtcgaekaollhmpaaGreatSb
namespace Go.Proofs.YtcgaekaollhmpaaGreat
open Go.RowKit Go.Maps

section
variable {w wr w' : World} {hb g n : Nat} {C C' : Ct} {T T' : Nat → Prop}
/-- changes of somebody else's blocks alone -/
theorem Lw.kp (h : Lw w wr hb C g n T) (k : Kp T wr w') (hT : ∀ j, T j → w.heap.size ≤ j) : Lw w w' hb C g n T := by
  obtain ⟨S, tg, h⟩ := h
  have hm := h.h.h.m
  have hkk : ∀ j, tg j ≠ .no → w'.heap[j]? = wr.heap[j]? := fun j hj => k.block j (hm.lt j hj) fun q => hj (h.u j q).2
  refine ⟨S, tg, ⟨⟨⟨hm.hp.at (hkk hb (by rw [hm.tp]; exact nofun)), fun b hb' => (hm.nd b hb').at (hkk b (by rw [hm.tn b hb']; exact nofun)), fun F hF => (hm.fm F hF).keep fun g' hg' => hkk g' (by rw [hm.tf F hF g' hg']; exact nofun), hm.tp, hm.tn, hm.tf, fun j hj => Nat.lt_of_lt_of_le (hm.lt j hj) k.size⟩, ?_, h.h.h.i, h.h.h.l⟩, h.h.c, h.h.g, h.h.n⟩, h.t, fun j hj => ⟨Nat.lt_of_lt_of_le (h.u j hj).1 k.size, (h.u j hj).2⟩, h.b.trans (k.below h.b.size fun j hj q => by have := hT j q; omega)⟩
  have hp := h.h.h.p
  unfold Mp at *
  cases hmb : S.mb with
  | none => rw [hmb] at hp; exact hp
  | some mp =>
    rw [hmb] at hp
    obtain ⟨M, hM⟩ := hp
    exact ⟨M, hM.t, keepMap hM.o (hkk mp (by rw [hM.t]; exact nofun)), hM.n, hM.a⟩
/-- a block that is new -/
theorem Lw.more (h : Lw w wr hb C g n T) (b : Below wr.heap.size wr w') (hT : ∀ j, T' j → T j ∨ (wr.heap.size ≤ j ∧ j < w'.heap.size)) : Lw w w' hb C g n T' := by
  obtain ⟨S, tg, h⟩ := h
  have hk := h.keep b
  refine ⟨S, tg, hk.h, hk.t, fun j hj => ?_, hk.b⟩
  rcases hT j hj with q | ⟨q1, q2⟩
  · exact hk.u j q
  · refine ⟨q2, ?_⟩
    by_cases q : tg j = .no
    · exact q
    · have := h.h.h.m.lt _ q; omega
theorem lw_new' (hb0 : Below w.heap.size w wr) (hT : ∀ j, T j → j < wr.heap.size) : Lw w (wr.alloc (.cells zeroH 98)) wr.heap.size Ct.nil 0 0 T := by
  refine ⟨zS, _, hc_zero (new_blk wr), fun k hk => ?_, fun j hj => ⟨by simp; have := hT j hj; omega, ?_⟩, hb0.alloc hb0.size _⟩
  · by_cases q : k = wr.heap.size
    · rw [q]; exact hb0.size
    · simp [q] at hk
  · have := hT j hj
    exact if_neg (by omega)
end
/-- a line; T: blocks that are somebody else's -/
structure LinA (w wr : World) (lb : Nat) (C : Ct) (g n : Nat) (T : Nat → Prop) (hb hr cap : Nat) (T' : Nat → Prop) : Prop where
  h : Lw w wr hb C g n T'
  s : ∀ j, T j → T' j
  l : T' lb ∧ ¬ T lb ∧ w.heap.size ≤ lb
  r : T' hr ∧ ¬ T hr ∧ w.heap.size ≤ hr
  a : wr.heap[lb]? = some (.cells #[.slice (some ⟨hr, 0, none⟩) 1 cap] 69 (0, 0))
  c : wr.cell? ⟨hr, 0, none⟩ = some (.pointer (some ⟨hb, 0, none⟩))
structure LinZ (w wr : World) (lb : Nat) (T : Nat → Prop) : Prop where
  b : Below w.heap.size w wr
  t : ∀ j, T j → j < wr.heap.size
  l : ¬ T lb ∧ w.heap.size ≤ lb
  a : wr.heap[lb]? = some (.cells #[.slice none 0 0] 69 (0, 0))
def Lin (w wr : World) (lb : Nat) (C : Ct) (n : Nat) (T : Nat → Prop) : Prop := (n = 0 ∧ C = Ct.nil ∧ LinZ w wr lb T) ∨ ∃ g hb hr cap T', LinA w wr lb C g n T hb hr cap T'
section
variable {w wr w' : World} {lb g n : Nat} {C C' : Ct} {T T' : Nat → Prop}
theorem cell_kp {S : Nat → Prop} {a : Addr} {v : Value} (k : Kp S wr w') (h : wr.cell? a = some v) (hn : ¬ S a.block) : w'.cell? a = some v := by
  have hl := block_lt_of_cell h
  have := k.block _ hl hn
  unfold World.cell? at *
  rw [this]
  exact h
theorem Lin.below (h : Lin w wr lb C n T) : Below w.heap.size w wr := by
  rcases h with ⟨_, _, h⟩ | ⟨g, hb, hr, cap, T', h⟩
  · exact h.b
  · exact h.h.below
theorem Lin.kp (h : Lin w wr lb C n T) (k : Kp T wr w') (hT : ∀ j, T j → w.heap.size ≤ j) : Lin w w' lb C n T := by
  rcases h with ⟨h1, h2, h⟩ | ⟨g, hb, hr, cap, T', h⟩
  · exact .inl ⟨h1, h2, h.b.trans (k.below h.b.size fun j hj q => by have := hT j q; omega), fun j hj => Nat.lt_of_lt_of_le (h.t j hj) k.size, h.l, (k.block lb (Array.getElem?_eq_some_iff.1 h.a).1 h.l.1).trans h.a⟩
  · refine .inr ⟨g, hb, hr, cap, T', ?_, h.s, h.l, h.r, (k.block lb (Array.getElem?_eq_some_iff.1 h.a).1 h.l.2.1).trans h.a, cell_kp k h.c h.r.2.1⟩
    have h0 := h.h.less h.s
    have h1 := h0.kp k hT
    obtain ⟨S, tg, q⟩ := h.h
    have hm := q.h.h.m
    have hkk : ∀ j, tg j ≠ .no → w'.heap[j]? = wr.heap[j]? := fun j hj => k.block j (hm.lt j hj) fun e => hj (q.u j (h.s j e)).2
    refine ⟨S, tg, ⟨⟨⟨hm.hp.at (hkk hb (by rw [hm.tp]; exact nofun)), fun b hb' => (hm.nd b hb').at (hkk b (by rw [hm.tn b hb']; exact nofun)), fun F hF => (hm.fm F hF).keep fun g' hg' => hkk g' (by rw [hm.tf F hF g' hg']; exact nofun), hm.tp, hm.tn, hm.tf, fun j hj => Nat.lt_of_lt_of_le (hm.lt j hj) k.size⟩, ?_, q.h.h.i, q.h.h.l⟩, q.h.c, q.h.g, q.h.n⟩, q.t, fun j hj => ⟨Nat.lt_of_lt_of_le (q.u j hj).1 k.size, (q.u j hj).2⟩, h1.below⟩
    have hp := q.h.h.p
    unfold Mp at *
    cases hmb : S.mb with
    | none => rw [hmb] at hp; exact hp
    | some mp =>
      rw [hmb] at hp
      obtain ⟨M, hM⟩ := hp
      exact ⟨M, hM.t, keepMap hM.o (hkk mp (by rw [hM.t]; exact nofun)), hM.n, hM.a⟩
theorem Lin.more (h : Lin w wr lb C n T) (b : Below wr.heap.size wr w') (hT : ∀ j, T' j → T j ∨ (wr.heap.size ≤ j ∧ j < w'.heap.size)) : Lin w w' lb C n T' := by
  rcases h with ⟨h1, h2, h⟩ | ⟨g, hb, hr, cap, T1, h⟩
  · have hl := (Array.getElem?_eq_some_iff.1 h.a).1
    refine .inl ⟨h1, h2, h.b.trans (b.mono h.b.size), fun j hj => ?_, ⟨fun q => ?_, h.l.2⟩, at_below b (Nat.le_refl _) h.a⟩
    · rcases hT j hj with q | q
      · exact Nat.lt_of_lt_of_le (h.t j q) b.size
      · exact q.2
    · rcases hT lb q with q | q
      · exact h.l.1 q
      · omega
  · have hl := (Array.getElem?_eq_some_iff.1 h.a).1
    have hr' := block_lt_of_cell h.c
    refine .inr ⟨g, hb, hr, cap, fun j => T1 j ∨ T' j, h.h.more b (fun j hj => ?_), fun j hj => .inr hj, ⟨.inl h.l.1, fun q => ?_, h.l.2.2⟩, ⟨.inl h.r.1, fun q => ?_, h.r.2.2⟩, at_below b (Nat.le_refl _) h.a, keep1c' b h.c⟩
    · rcases hj with q | q
      · exact .inl q
      · exact (hT j q).imp (h.s j) id
    · rcases hT lb q with q | q
      · exact h.l.2.1 q
      · omega
    · rcases hT hr q with q | q
      · exact h.r.2.1 q
      · have : hr < wr.heap.size := hr'
        omega
end
end Go.Proofs.YtcgaekaollhmpaaGreat
