/-
  The law's is.
-/
import Derived.Test.YtoiopplhphllhaaSl
namespace Go.Proofs.Ytoiopplhphllhaa
open Go.RowKit Go.Maps

theorem pts_any (n1 n2 : Int) (l1 l2 : List RC) (q1 q2 : Option Addr) (m1 m2 c1 c2 : Nat) (w : World) (hm : m1 < 1152921504606846976) (h1 : l1.length = m1) (h2 : l2.length = m2) (H1 : Pcs w q1 l1) (H2 : Pcs w q2 l2) (hl : ∀ r ∈ l1, r.b.length < 1152921504606846976) :
    Calls Try.prog 34 #[.agg #[.bool true, .int .i64 n1, .slice q1 m1 c1], .agg #[.bool true, .int .i64 n2, .slice q2 m2 c2]] w fun e w' => e = .returned (.bool (decide (n1 = n2 ∧ l1.map RC.b = l2.map RC.b))) ∧ Below w.heap.size w w' := by
  by_cases hn : n1 = n2
  · subst hn
    by_cases he : m1 = m2
    · subst he
      refine (pts_some n1 l1 l2 q1 q2 m1 c1 c2 w hm h1 h2 H1 H2 hl).mono ?_
      rintro e w' ⟨rfl, b⟩
      exact ⟨ret_b (decide_eq_decide.2 ⟨fun h => ⟨rfl, h⟩, fun h => h.2⟩), b⟩
    · refine (pts_len n1 q1 q2 m1 m2 c1 c2 (by simp; omega) w).mono ?_
      rintro e w' ⟨rfl, b⟩
      refine ⟨ret_b (decide_eq_false fun h => he ?_).symm, b⟩
      have := congrArg List.length h.2
      rw [List.length_map, List.length_map, h1, h2] at this
      exact this
  · refine (pts_num n1 n2 (by simpa using hn) q1 q2 m1 m2 c1 c2 w).mono ?_
    rintro e w' ⟨rfl, b⟩
    exact ⟨ret_b (decide_eq_false fun h => hn h.1).symm, b⟩

/-- a Point as its cells -/
structure PT where
  i : Bool
  n : Int
  q : Option Addr
  m : Nat
  c : Nat
def PT.cs (p : PT) : Array Value := #[.bool p.i, .int .i64 p.n, .slice p.q p.m p.c]
set_option maxHeartbeats 1000000 in
theorem is_1 (w : World) (p : Value) (i : Bool) (n : Int) (q : Option Addr) (m d : Nat) (c : Int) (dn r : Bool) (R : World → Prop)
    (H22 : Hid (Calls Try.prog 22 #[p] (w.alloc (.cells #[.bool i, .int .i64 n, .slice q m d] 29)) fun e w' => ∃ b1 n1 q1 m1 d1, e = .returned (.tuple #[.agg #[.bool b1, .int .i64 n1, .slice q1 m1 d1], .int .i64 c]) ∧ R w' ∧ Below (w.heap.size + 1) (w.alloc (.cells #[.bool i, .int .i64 n, .slice q m d] 29)) w'))
    (H13 : Hid (∀ V W : World, R V → Below V.heap.size V W → Calls Try.prog 13 #[p] W fun e w' => e = .returned (.bool dn) ∧ w' = W))
    (hr : dn = true ∧ (c == 11) = r ∨ dn = false ∧ i = false ∧ (c == 3) = r ∨ dn = false ∧ i = true ∧ (c == 0) = false ∧ r = false) :
    Calls Try.prog 17 #[p, .agg #[.bool i, .int .i64 n, .slice q m d]] w fun e w' => e = .returned (.bool r) ∧ Below w.heap.size w w' := by
  go_enter Try.func17, Try.ntmps17
  go_wp2_with (go_at_call 22; refine H22.out.mono ?_)
  rintro e w1 ⟨b1, n1, q1, m1, d1, rfl, h1, hb1⟩
  have hA : w1.heap[w.heap.size]? = some (.cells #[.bool i, .int .i64 n, .slice q m d] 29 (0, 0)) := (hb1.block _ (by omega)).trans new0
  have B0 : Hid (Below w.heap.size w w1) := ((Below.refl _ w).alloc (Nat.le_refl _) _).trans (hb1.mono (by omega))
  have hlt : w.heap.size < w1.heap.size := by have := hb1.size; simp at this; omega
  obtain ⟨a0, a1, a2⟩ := k3 hA
  clear hA hb1
  have G13 : Hid (Calls Try.prog 13 #[p] (w1.alloc (.cells #[.bool b1, .int .i64 n1, .slice q1 m1 d1] 29)) fun e w' => e = .returned (.bool dn) ∧ w' = w1.alloc (.cells #[.bool b1, .int .i64 n1, .slice q1 m1 d1] 29)) := H13.out w1 _ h1 ((Below.refl _ w1).alloc (Nat.le_refl _) _)
  have B2 : Hid (Below w.heap.size w (w1.alloc (.cells #[.bool b1, .int .i64 n1, .slice q1 m1 d1] 29))) := B0.out.alloc B0.out.size _
  rcases hr with ⟨rfl, hr⟩ | ⟨rfl, rfl, hr⟩ | ⟨rfl, rfl, hr, rfl⟩
  all_goals
    go_wp2_with (go_at_call 13; refine G13.out.mono ?_)
    rintro e w2 ⟨rfl, rfl⟩
    go_wp2_with fail
    go_ret
  · exact ⟨rfl, B2.out⟩
  · exact ⟨rfl, B2.out⟩
  · exact ⟨rfl, B2.out⟩
set_option maxHeartbeats 1000000 in
theorem is_2 (w : World) (p : Value) (n : Int) (q : Option Addr) (m d : Nat) (r : Bool) (R : Int → Option Addr → Nat → Nat → World → Prop)
    (H22 : Hid (Calls Try.prog 22 #[p] (w.alloc (.cells #[.bool true, .int .i64 n, .slice q m d] 29)) fun e w' => ∃ n1 q1 m1 d1, e = .returned (.tuple #[.agg #[.bool true, .int .i64 n1, .slice q1 m1 d1], .int .i64 0]) ∧ R n1 q1 m1 d1 w' ∧ Below (w.heap.size + 1) (w.alloc (.cells #[.bool true, .int .i64 n, .slice q m d] 29)) w'))
    (H13 : Hid (∀ n1 q1 m1 d1, ∀ V W : World, R n1 q1 m1 d1 V → Below V.heap.size V W → Calls Try.prog 13 #[p] W fun e w' => e = .returned (.bool false) ∧ w' = W))
    (H34 : Hid (∀ n1 q1 m1 d1, ∀ V W : World, R n1 q1 m1 d1 V → Below V.heap.size V W → Calls Try.prog 34 #[.agg #[.bool true, .int .i64 n1, .slice q1 m1 d1], .agg #[.bool true, .int .i64 n, .slice q m d]] W fun e w' => e = .returned (.bool r) ∧ Below W.heap.size W w')) :
    Calls Try.prog 17 #[p, .agg #[.bool true, .int .i64 n, .slice q m d]] w fun e w' => e = .returned (.bool r) ∧ Below w.heap.size w w' := by
  go_enter Try.func17, Try.ntmps17
  go_wp2_with (go_at_call 22; refine H22.out.mono ?_)
  rintro e w1 ⟨n1, q1, m1, d1, rfl, h1, hb1⟩
  have hA : w1.heap[w.heap.size]? = some (.cells #[.bool true, .int .i64 n, .slice q m d] 29 (0, 0)) := (hb1.block _ (by omega)).trans new0
  have B0 : Hid (Below w.heap.size w w1) := ((Below.refl _ w).alloc (Nat.le_refl _) _).trans (hb1.mono (by omega))
  have hlt : w.heap.size < w1.heap.size := by have := hb1.size; simp at this; omega
  obtain ⟨a0, a1, a2⟩ := k3 hA
  clear hA hb1
  have b3 : Below w1.heap.size w1 (w1.alloc (.cells #[.bool true, .int .i64 n1, .slice q1 m1 d1] 29)) := (Below.refl _ w1).alloc (Nat.le_refl _) _
  have G13 : Hid (Calls Try.prog 13 #[p] (w1.alloc (.cells #[.bool true, .int .i64 n1, .slice q1 m1 d1] 29)) fun e w' => e = .returned (.bool false) ∧ w' = w1.alloc (.cells #[.bool true, .int .i64 n1, .slice q1 m1 d1] 29)) := H13.out n1 q1 m1 d1 w1 _ h1 b3
  have G34 : Hid (Calls Try.prog 34 #[.agg #[.bool true, .int .i64 n1, .slice q1 m1 d1], .agg #[.bool true, .int .i64 n, .slice q m d]] (w1.alloc (.cells #[.bool true, .int .i64 n1, .slice q1 m1 d1] 29)) fun e w' => e = .returned (.bool r) ∧ Below (w1.alloc (.cells #[.bool true, .int .i64 n1, .slice q1 m1 d1] 29)).heap.size (w1.alloc (.cells #[.bool true, .int .i64 n1, .slice q1 m1 d1] 29)) w') := H34.out n1 q1 m1 d1 w1 _ h1 b3
  have B2 : Hid (Below w.heap.size w (w1.alloc (.cells #[.bool true, .int .i64 n1, .slice q1 m1 d1] 29))) := B0.out.alloc B0.out.size _
  clear h1 b3
  go_wp2_with (go_at_call 13; refine G13.out.mono ?_)
  rintro e w2 ⟨rfl, rfl⟩
  go_wp2_with (go_at_call 34; refine G34.out.mono ?_)
  rintro e w3 ⟨rfl, b3⟩
  go_wp2_with fail
  go_ret
  exact ⟨rfl, below_from B2.out b3 B2.out.size⟩
/-- is the checkpoint the one? -/
def isB (D : DK) (s : Option (Nat × List (List UInt8))) (i : Bool) (n : Int) (ps : List (List UInt8)) : Bool :=
  if D.down = true then true else if i = true then (match s with | none => false | some (k, qs) => decide ((k : Int) = n ∧ qs = ps)) else s.isNone
theorem is_any {w : World} {tg : Nat → Tg} {pb : Nat} {D : DK} (h : Dsk w tg pb D) (s : Option (Nat × List (List UInt8))) (hs : Holds D s) (i : Bool) (n : Int) (q : Option Addr) (m d : Nat) (l : List RC) (hl : l.length = m) (hP : Pcs w q l) :
    Calls Try.prog 17 #[.pointer (some ⟨pb, 0, none⟩), .agg #[.bool i, .int .i64 n, .slice q m d]] w fun e w' => e = .returned (.bool (isB D s i n (l.map RC.b))) ∧ Below w.heap.size w w' := by
  have b0 : Below w.heap.size w (w.alloc (.cells #[.bool i, .int .i64 n, .slice q m d] 29)) := (Below.refl _ w).alloc (Nat.le_refl _) _
  have hsz : (w.alloc (.cells #[.bool i, .int .i64 n, .slice q m d] 29)).heap.size = w.heap.size + 1 := by simp
  have H22 := loaded_any (h.keepB b0) s hs
  rw [hsz] at H22
  have hd : ∀ V : World, Dsk V tg pb D → Calls Try.prog 13 #[.pointer (some ⟨pb, 0, none⟩)] V fun e w' => e = .returned (.bool D.down) ∧ w' = V := fun V hV => by
    obtain ⟨_, _, _, dd⟩ := hV
    exact down_at V pb _ _ _ _ dd.cell
  have easy : ∀ r : Bool, (D.down = true ∧ (ldE D s == 11) = r ∨ D.down = false ∧ i = false ∧ (ldE D s == 3) = r ∨ D.down = false ∧ i = true ∧ (ldE D s == 0) = false ∧ r = false) → Calls Try.prog 17 #[.pointer (some ⟨pb, 0, none⟩), .agg #[.bool i, .int .i64 n, .slice q m d]] w fun e w' => e = .returned (.bool r) ∧ Below w.heap.size w w' := by
    intro r hr
    refine is_1 w _ i n q m d (ldE D s) D.down r (fun V => Dsk V tg pb D) (H22.mono ?_) (fun V W hV hb => hd W (hV.keepB hb)) hr
    rintro e w' ⟨k, q1, m1, d1, l1, rfl, h1, h2, h3⟩
    exact ⟨_, _, _, _, _, rfl, (h.keepB b0).keepB (by rw [hsz]; exact h2), h2⟩
  unfold isB
  by_cases hdn : D.down = true
  · rw [if_pos hdn]
    exact easy true (.inl ⟨hdn, by unfold ldE; rw [if_pos hdn]; rfl⟩)
  · rw [if_neg hdn]
    have hdn' : D.down = false := by simpa using hdn
    cases i with
    | false =>
      simp only [Bool.false_eq_true, if_false]
      refine easy _ (.inr (.inl ⟨hdn', rfl, ?_⟩))
      unfold ldE
      rw [if_neg hdn]
      cases s <;> rfl
    | true =>
      simp only [if_true]
      cases s with
      | none =>
        refine easy false (.inr (.inr ⟨hdn', rfl, ?_, rfl⟩))
        unfold ldE
        rw [if_neg hdn]
        rfl
      | some np =>
        obtain ⟨k, qs⟩ := np
        have h0 : ldE D (some (k, qs)) = 0 := by unfold ldE; rw [if_neg hdn]
        rw [h0] at H22
        have hlen : qs.length ≤ 16384 ∧ ∀ p ∈ qs, p.length ≤ 4096 := by
          obtain ⟨-, h2, h3⟩ := fitE_parts hs.1
          unfold manyP at h3
          simp only [Bool.or_eq_false_iff, decide_eq_false_iff_not] at h3
          exact ⟨by omega, longP_all h2⟩
        refine is_2 w _ n q m d _ (fun n1 q1 m1 d1 V => Dsk V tg pb D ∧ n1 = k ∧ Below w.heap.size w V ∧ ∃ l1, PsOwn V (w.heap.size + 1) (.slice q1 m1 d1) l1 ∧ l1.map RC.b = qs) (H22.mono ?_) ?_ ?_
        · rintro e w' ⟨k1, q1, m1, d1, l1, rfl, h1, h2, h3⟩
          have h4 := h3 rfl
          cases h4
          exact ⟨_, _, _, _, rfl, ⟨(h.keepB b0).keepB (by rw [hsz]; exact h2), rfl, b0.trans (h2.mono (by omega)), l1, h1, rfl⟩, h2⟩
        · rintro n1 q1 m1 d1 V W ⟨hV, -⟩ hb
          have := hd W (hV.keepB hb)
          rw [hdn'] at this
          exact this
        · rintro n1 q1 m1 d1 V W ⟨hV, rfl, hbV, l1, h1, h2⟩ hb
          obtain ⟨hp1, hp2⟩ := (h1.keep hb).pcs
          have hl1 : l1.length = qs.length := by rw [← h2, List.length_map]
          have := pts_any k n l1 l q1 q m1 m d1 d W (by omega) hp2 hl hp1 (hP.keep (below_from hbV hb hbV.size)) (fun r hr => by
            have := hlen.2 r.b (by rw [← h2]; exact List.mem_map.2 ⟨r, hr, rfl⟩)
            omega)
          rw [h2] at this
          exact this
end Go.Proofs.Ytoiopplhphllhaa
