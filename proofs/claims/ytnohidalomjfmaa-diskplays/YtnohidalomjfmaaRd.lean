/-
  The document's disk: Read, Truncate.
-/
import Derived.Test.YtnohidalomjfmaaRc
namespace Go.Proofs.Ytnohidalomjfmaa
open Go.RowKit Go.Maps

/-! ### Read -/
set_option maxHeartbeats 400000 in
theorem rread_no (w : World) (p : Value) (s : List UInt8) (k c : Int) (hc : (c != 0) = true) (H : Hid (Calls Try.prog 51 #[p, .string ⟨⟨s⟩⟩] w fun e w' => e = .returned (.tuple #[.int .i64 k, .int .i64 c]) ∧ w' = w)) :
    Calls Try.prog 31 #[p, .string ⟨⟨s⟩⟩] w fun e w' => e = .returned (.tuple #[.slice none 0 0, .int .i64 c]) ∧ w' = w := by
  go_enter Try.func31, Try.ntmps31
  go_wp2_with (go_at_call 51; refine H.out.mono ?_)
  rintro e w1 ⟨rfl, rfl⟩
  go_wp2_with fail
  go_ret2
  exact ⟨rfl, rfl⟩
set_option maxHeartbeats 400000 in
theorem rread_ok (w : World) (pb k : Nat) (s : List UInt8) (H : Hid (Calls Try.prog 51 #[.pointer (some ⟨pb, 0, none⟩), .string ⟨⟨s⟩⟩] w fun e w' => e = .returned (.tuple #[.int .i64 k, .int .i64 0]) ∧ w' = w))
    (n g c : Nat) (x y u : Value) (hk : k < n) (h : Hid (w.heap[pb]? = some (.cells #[.slice (some ⟨g, 0, none⟩) n c, x, y] 35 (0, 0)))) (h2 : w.cell? ⟨g, k * 3 + 1, none⟩ = some u) :
    Calls Try.prog 31 #[.pointer (some ⟨pb, 0, none⟩), .string ⟨⟨s⟩⟩] w fun e w' => e = .returned (.tuple #[u, .int .i64 0]) ∧ w' = w := by
  obtain ⟨e0, e1, e2⟩ := c3 h.out
  have hi : (k : Int) < (n : Int) := by omega
  go_enter Try.func31, Try.ntmps31
  go_wp2_with (go_at_call 51; refine H.out.mono ?_)
  rintro e w1 ⟨rfl, rfl⟩
  go_wp2_with fail
  go_ret2
  exact ⟨rfl, rfl⟩
theorem rread_any {w : World} {tg : Nat → Tg} {pb : Nat} {D : DK} (h : Ref w tg pb D) (s : List UInt8) :
    Calls Try.prog 31 #[.pointer (some ⟨pb, 0, none⟩), .string ⟨⟨s⟩⟩] w fun e w' => ∃ a c, e = .returned (.tuple #[.slice a (readD D s).2.length c, .int .i64 (readD D s).1]) ∧ Lies w a (readD D s).2 ∧ w' = w := by
  obtain ⟨v, l, z, h⟩ := h
  have H := there_any h s
  unfold readD
  unfold thereC thereK at H
  cases hd : D.down with
  | true =>
    rw [hd] at H
    refine (rread_no w _ s _ 11 rfl H).mono ?_
    rintro e w' ⟨rfl, rfl⟩
    exact ⟨none, 0, rfl, .inl rfl, rfl⟩
  | false =>
    rw [hd] at H
    rw [if_neg (by simp), h.fs, fnd_map]
    rcases pos_fnd s l with ⟨p1, p2⟩ | ⟨k, f, p1, p2, p3⟩
    · rw [p2]
      rw [p1] at H
      refine (rread_no w _ s _ 3 rfl H).mono ?_
      rintro e w' ⟨rfl, rfl⟩
      exact ⟨none, 0, rfl, .inl rfl, rfl⟩
    · rw [p3]
      rw [p1] at H
      obtain ⟨g, c, rfl, _, _, _, c1, _⟩ := h.cells p2
      refine (rread_ok w pb k s H l.length g c _ _ f.v (pos_lt p2) h.cell c1).mono ?_
      rintro e w' ⟨rfl, rfl⟩
      exact ⟨f.a, f.c, rfl, (h.fl f (List.mem_of_getElem? p2)).lies, rfl⟩

/-! ### Truncate -/
set_option maxHeartbeats 400000 in
theorem rtr_no (w : World) (p : Value) (s : List UInt8) (n : Int) (k c : Int) (hc : (c != 0) = true) (H : Hid (Calls Try.prog 51 #[p, .string ⟨⟨s⟩⟩] w fun e w' => e = .returned (.tuple #[.int .i64 k, .int .i64 c]) ∧ w' = w)) :
    Calls Try.prog 26 #[p, .string ⟨⟨s⟩⟩, .int .i64 n] w fun e w' => e = .returned (.int .i64 c) ∧ w' = w := by
  go_enter Try.func26, Try.ntmps26
  go_wp2_with (go_at_call 51; refine H.out.mono ?_)
  rintro e w1 ⟨rfl, rfl⟩
  go_wp2_with fail
  go_ret
  exact ⟨rfl, rfl⟩
set_option maxHeartbeats 400000 in
theorem rtr_neg (w : World) (p : Value) (s : List UInt8) (n : Int) (k : Int) (hn : n < 0) (H : Hid (Calls Try.prog 51 #[p, .string ⟨⟨s⟩⟩] w fun e w' => e = .returned (.tuple #[.int .i64 k, .int .i64 0]) ∧ w' = w)) :
    Calls Try.prog 26 #[p, .string ⟨⟨s⟩⟩, .int .i64 n] w fun e w' => e = .returned (.int .i64 2) ∧ w' = w := by
  go_enter Try.func26, Try.ntmps26
  go_wp2_with (go_at_call 51; refine H.out.mono ?_)
  rintro e w1 ⟨rfl, rfl⟩
  go_wp2_with fail
  go_ret
  exact ⟨rfl, rfl⟩
set_option maxHeartbeats 400000 in
theorem rtr_big (w : World) (pb k : Nat) (s : List UInt8) (N : Int) (H : Hid (Calls Try.prog 51 #[.pointer (some ⟨pb, 0, none⟩), .string ⟨⟨s⟩⟩] w fun e w' => e = .returned (.tuple #[.int .i64 k, .int .i64 0]) ∧ w' = w))
    (n g c m d : Nat) (a : Option Addr) (x y : Value) (hk : k < n) (hm : (m : Int) < N) (h : Hid (w.heap[pb]? = some (.cells #[.slice (some ⟨g, 0, none⟩) n c, x, y] 35 (0, 0)))) (h2 : w.cell? ⟨g, k * 3 + 1, none⟩ = some (.slice a m d)) :
    Calls Try.prog 26 #[.pointer (some ⟨pb, 0, none⟩), .string ⟨⟨s⟩⟩, .int .i64 N] w fun e w' => e = .returned (.int .i64 2) ∧ w' = w := by
  obtain ⟨e0, e1, e2⟩ := c3 h.out
  have hi : (k : Int) < (n : Int) := by omega
  have hN : 0 ≤ N := by omega
  go_enter Try.func26, Try.ntmps26
  go_wp2_with (go_at_call 51; refine H.out.mono ?_)
  rintro e w1 ⟨rfl, rfl⟩
  go_wp2_with fail
  go_ret
  exact ⟨rfl, rfl⟩
set_option maxHeartbeats 400000 in
theorem rtr_lost (w : World) (pb k : Nat) (s : List UInt8) (N : Nat) (R : World → Prop) (H : Hid (Calls Try.prog 51 #[.pointer (some ⟨pb, 0, none⟩), .string ⟨⟨s⟩⟩] w fun e w' => e = .returned (.tuple #[.int .i64 k, .int .i64 0]) ∧ w' = w)) (H2 : Hid (Calls Try.prog 48 #[.pointer (some ⟨pb, 0, none⟩)] w fun e w' => e = .returned (.bool false) ∧ R w'))
    (n g c m d : Nat) (a : Option Addr) (x y : Value) (hk : k < n) (hm : N ≤ m) (h : Hid (w.heap[pb]? = some (.cells #[.slice (some ⟨g, 0, none⟩) n c, x, y] 35 (0, 0)))) (h2 : w.cell? ⟨g, k * 3 + 1, none⟩ = some (.slice a m d)) :
    Calls Try.prog 26 #[.pointer (some ⟨pb, 0, none⟩), .string ⟨⟨s⟩⟩, .int .i64 N] w fun e w' => e = .returned (.int .i64 11) ∧ R w' := by
  obtain ⟨e0, e1, e2⟩ := c3 h.out
  have hi : (k : Int) < (n : Int) := by omega
  have hN : 0 ≤ (N : Int) := by omega
  have hM : (N : Int) ≤ (m : Int) := by omega
  go_enter Try.func26, Try.ntmps26
  go_wp2_with (go_at_call 51; refine H.out.mono ?_)
  rintro e w1 ⟨rfl, rfl⟩
  go_wp2_with (go_at_call 48; refine H2.out.mono ?_)
  rintro e w2 ⟨rfl, hR⟩
  go_wp2_with fail
  go_ret
  exact ⟨rfl, hR⟩
set_option maxHeartbeats 2000000 in
theorem rtr_ok (w : World) (pb k : Nat) (s : List UInt8) (N : Nat) (R : World → Prop) (H : Hid (Calls Try.prog 51 #[.pointer (some ⟨pb, 0, none⟩), .string ⟨⟨s⟩⟩] w fun e w' => e = .returned (.tuple #[.int .i64 k, .int .i64 0]) ∧ w' = w)) (H2 : Hid (Calls Try.prog 48 #[.pointer (some ⟨pb, 0, none⟩)] w fun e w' => e = .returned (.bool true) ∧ R w'))
    (n g c m d sy : Nat) (a : Addr) (x y y' : Value) (hk : k < n) (hm : N ≤ m) (hd : m ≤ d) (h : Hid (w.heap[pb]? = some (.cells #[.slice (some ⟨g, 0, none⟩) n c, x, y] 35 (0, 0)))) (h2 : w.cell? ⟨g, k * 3 + 1, none⟩ = some (.slice (some a) m d))
    (HR : Hid (∀ w', R w' → ∃ x, w'.heap[pb]? = some (.cells #[.slice (some ⟨g, 0, none⟩) n c, x, y'] 35 (0, 0)) ∧ w'.cell? ⟨g, k * 3 + 1, none⟩ = some (.slice (some a) m d) ∧ w'.cell? ⟨g, k * 3 + 2, none⟩ = some (.int .i64 sy) ∧ w'.frozen? ⟨g, k * 3 + 1, none⟩ = false ∧ w'.frozen? ⟨g, k * 3 + 2, none⟩ = false ∧ g ≠ pb)) :
    Calls Try.prog 26 #[.pointer (some ⟨pb, 0, none⟩), .string ⟨⟨s⟩⟩, .int .i64 N] w fun e w' => e = .returned (.int .i64 0) ∧ ∃ w1 j, R w1 ∧ w' = ((w1.setCell ⟨g, k * 3 + 1, none⟩ (.slice (some a) N N)).setCell ⟨g, k * 3 + 2, none⟩ (.int .i64 ((min sy N : Nat) : Int))).drewN j := by
  obtain ⟨e0, e1, e2⟩ := c3 h.out
  have hi : (k : Int) < (n : Int) := by omega
  have hN : 0 ≤ (N : Int) := by omega
  have hM : (N : Int) ≤ (m : Int) := by omega
  go_enter Try.func26, Try.ntmps26
  go_wp2_with (go_at_call 51; refine H.out.mono ?_)
  rintro e w1 ⟨rfl, rfl⟩
  go_wp2_with (go_at_call 48; refine H2.out.mono ?_)
  rintro e w2 ⟨rfl, hR⟩
  clear e0 e1 e2 h2 h
  obtain ⟨x2, h1, h2, h3, f1, f2, hgp⟩ := HR.out w2 hR
  obtain ⟨e0, e1, e2⟩ := c3 h1
  have HRR : Hid (R w2) := hR
  clear hR
  have g0 : (w2.setCell ⟨g, k * 3 + 1, none⟩ (.slice (some a) N N)).cell? ⟨pb, 0, none⟩ = some (.slice (some ⟨g, 0, none⟩) n c) := by
    refine (World.cell?_of_block ?_).trans e0
    exact Below.heap_setCell _ _ _ _ (fun e => hgp e.symm)
  go_wp2_with fail
  go_region
  go_wp2_with fail
  go_region
  all_goals go_wp2_with fail
  all_goals go_ret
  all_goals refine ⟨rfl, w2, 2, HRR.out, ?_⟩
  all_goals rw [show ((min sy N : Nat) : Int) = min (sy : Int) (N : Int) by omega]; rfl
set_option maxHeartbeats 2000000 in
theorem rtr_ok0 (w : World) (pb k : Nat) (s : List UInt8) (R : World → Prop) (H : Hid (Calls Try.prog 51 #[.pointer (some ⟨pb, 0, none⟩), .string ⟨⟨s⟩⟩] w fun e w' => e = .returned (.tuple #[.int .i64 k, .int .i64 0]) ∧ w' = w)) (H2 : Hid (Calls Try.prog 48 #[.pointer (some ⟨pb, 0, none⟩)] w fun e w' => e = .returned (.bool true) ∧ R w'))
    (n g c : Nat) (x y y' : Value) (hk : k < n) (h : Hid (w.heap[pb]? = some (.cells #[.slice (some ⟨g, 0, none⟩) n c, x, y] 35 (0, 0)))) (h2 : w.cell? ⟨g, k * 3 + 1, none⟩ = some (.slice none 0 0))
    (HR : Hid (∀ w', R w' → ∃ x, w'.heap[pb]? = some (.cells #[.slice (some ⟨g, 0, none⟩) n c, x, y'] 35 (0, 0)) ∧ w'.cell? ⟨g, k * 3 + 1, none⟩ = some (.slice none 0 0) ∧ w'.cell? ⟨g, k * 3 + 2, none⟩ = some (.int .i64 0) ∧ w'.frozen? ⟨g, k * 3 + 1, none⟩ = false ∧ w'.frozen? ⟨g, k * 3 + 2, none⟩ = false ∧ g ≠ pb)) :
    Calls Try.prog 26 #[.pointer (some ⟨pb, 0, none⟩), .string ⟨⟨s⟩⟩, .int .i64 0] w fun e w' => e = .returned (.int .i64 0) ∧ ∃ w1 j, R w1 ∧ w' = ((w1.setCell ⟨g, k * 3 + 1, none⟩ (.slice none 0 0)).setCell ⟨g, k * 3 + 2, none⟩ (.int .i64 0)).drewN j := by
  obtain ⟨e0, e1, e2⟩ := c3 h.out
  have hi : (k : Int) < (n : Int) := by omega
  go_enter Try.func26, Try.ntmps26
  go_wp2_with (go_at_call 51; refine H.out.mono ?_)
  rintro e w1 ⟨rfl, rfl⟩
  go_wp2_with (go_at_call 48; refine H2.out.mono ?_)
  rintro e w2 ⟨rfl, hR⟩
  clear e0 e1 e2 h2 h
  obtain ⟨x2, h1, h2, h3, f1, f2, hgp⟩ := HR.out w2 hR
  obtain ⟨e0, e1, e2⟩ := c3 h1
  have HRR : Hid (R w2) := hR
  clear hR
  have g0 : (w2.setCell ⟨g, k * 3 + 1, none⟩ (.slice none 0 0)).cell? ⟨pb, 0, none⟩ = some (.slice (some ⟨g, 0, none⟩) n c) := by
    refine (World.cell?_of_block ?_).trans e0
    exact Below.heap_setCell _ _ _ _ (fun e => hgp e.symm)
  go_wp2_with fail
  go_region
  go_wp2_with fail
  go_region
  all_goals go_wp2_with fail
  all_goals go_ret
  all_goals exact ⟨rfl, w2, 2, HRR.out, rfl⟩

theorem flat_both {f f' : RF} {l : List RF} {k : Nat} (e1 : f'.nm = f.nm) (h : l[k]? = some f) : flat (l.set k f') = ((flat l).set (k * 3 + 1) f'.v).set (k * 3 + 2) (.int .i64 f'.sy) := by
  have h1 := flat_set1 (f := f) (f' := ⟨f.nm, f'.b, f.sy, f'.a, f'.c⟩) rfl rfl h
  have h2 := flat_set2 (f := ⟨f.nm, f'.b, f.sy, f'.a, f'.c⟩) (f' := f') e1 rfl (l := l.set k ⟨f.nm, f'.b, f.sy, f'.a, f'.c⟩) (k := k) (List.getElem?_set_self (pos_lt h))
  rw [List.set_set, h1] at h2
  exact h2
theorem rtr_any {w : World} {tg : Nat → Tg} {pb : Nat} {D : DK} (h : Ref w tg pb D) (s : List UInt8) (n : Int) :
    Calls Try.prog 26 #[.pointer (some ⟨pb, 0, none⟩), .string ⟨⟨s⟩⟩, .int .i64 n] w fun e w' => e = .returned (.int .i64 (truncD D s n).1) ∧ ∃ tg', Ref w' tg' pb (truncD D s n).2 ∧ Step tg tg' w w' := by
  obtain ⟨v, l, z, h⟩ := h
  have H := there_any h s
  unfold truncD
  unfold thereC thereK at H
  cases hd : D.down with
  | true =>
    rw [hd] at H
    refine (rtr_no w _ s n _ 11 rfl H).mono ?_
    rintro e w' ⟨rfl, rfl⟩
    exact ⟨rfl, tg, ⟨v, l, z, h⟩, Step.refl _ _⟩
  | false =>
    rw [hd] at H
    rw [if_neg (by simp), h.fs, fnd_map]
    rcases pos_fnd s l with ⟨p1, p2⟩ | ⟨k, f, p1, p2, p3⟩
    · rw [p2]
      rw [p1] at H
      refine (rtr_no w _ s n _ 3 rfl H).mono ?_
      rintro e w' ⟨rfl, rfl⟩
      exact ⟨rfl, tg, ⟨v, l, z, h⟩, Step.refl _ _⟩
    · rw [p3]
      rw [p1] at H
      simp only [Option.map_some]
      obtain ⟨g, c, rfl, _, _, _, c1, _⟩ := h.cells p2
      have hlt := pos_lt p2
      by_cases h0 : n < 0
      · rw [if_pos (.inl h0)]
        refine (rtr_neg w _ s n _ h0 H).mono ?_
        rintro e w' ⟨rfl, rfl⟩
        exact ⟨rfl, tg, ⟨_, l, z, h⟩, Step.refl _ _⟩
      by_cases h1 : (f.b.length : Int) < n
      · rw [if_pos (.inr h1)]
        refine (rtr_big w pb k s n H l.length g c f.b.length f.c f.a _ _ hlt h1 h.cell c1).mono ?_
        rintro e w' ⟨rfl, rfl⟩
        exact ⟨rfl, tg, ⟨_, l, z, h⟩, Step.refl _ _⟩
      obtain ⟨N, rfl⟩ : ∃ N : Nat, n = N := ⟨n.toNat, by omega⟩
      have hN : N ≤ f.b.length := by omega
      rw [if_neg (show ¬ ((N : Int) < 0 ∨ (f.s.b.length : Int) < N) from fun e => e.elim h0 h1)]
      have H2 := done_any h
      cases hb : (burn D).1 with
      | false =>
        rw [hb] at H2
        rw [if_neg (by simp)]
        refine (rtr_lost w pb k s N _ H H2 l.length g c f.b.length f.c f.a _ _ hlt hN h.cell c1).mono ?_
        rintro e w' ⟨rfl, ⟨z', h'⟩, st⟩
        exact ⟨rfl, tg, ⟨_, l, z', h'⟩, st⟩
      | true =>
        rw [hb] at H2
        rw [if_pos rfl]
        have hpg : g ≠ pb := fun e => by have := h.tm g rfl; rw [e, h.tp] at this; cases this
        have hbl : ∀ w', ((∃ z', RAt w' tg pb (burn D).2 (.slice (some ⟨g, 0, none⟩) l.length c) l z') ∧ Step tg tg w w') → ∃ x, w'.heap[pb]? = some (.cells #[.slice (some ⟨g, 0, none⟩) l.length c, x, .bool (burn D).2.down] 35 (0, 0)) ∧ w'.cell? ⟨g, k * 3 + 1, none⟩ = some (.slice f.a f.b.length f.c) ∧ w'.cell? ⟨g, k * 3 + 2, none⟩ = some (.int .i64 f.sy) ∧ w'.frozen? ⟨g, k * 3 + 1, none⟩ = false ∧ w'.frozen? ⟨g, k * 3 + 2, none⟩ = false ∧ g ≠ pb := by
          rintro w' ⟨⟨z', h'⟩, -⟩
          obtain ⟨g', c', e, _, _, c0, c1, c2, c4, _⟩ := h'.cells p2
          cases e
          exact ⟨_, h'.cell, c1, c2, c4 _, c4 _, hpg⟩
        have hF0 := h.fl f (List.mem_of_getElem? p2)
        have hn : f.nm = s := (fnd_some p3).2
        have key : ∀ (a' : Option Addr) (c' : Nat) (w1 : World) (z' : Int) (j : Nat), (a' = f.a) → (a' = none → c' = 0) → N ≤ c' → c' ≤ 9223372036854775807 → RAt w1 tg pb (burn D).2 (.slice (some ⟨g, 0, none⟩) l.length c) l z' → Step tg tg w w1 →
            Ref (((w1.setCell ⟨g, k * 3 + 1, none⟩ (.slice a' N c')).setCell ⟨g, k * 3 + 2, none⟩ (.int .i64 ((min f.sy N : Nat) : Int))).drewN j) tg pb ⟨upd Fil.nm s ⟨s, f.b.take N, min f.sy N⟩ (l.map RF.s), (burn D).2.down, (burn D).2.fuse⟩ ∧ Step tg tg w (((w1.setCell ⟨g, k * 3 + 1, none⟩ (.slice a' N c')).setCell ⟨g, k * 3 + 2, none⟩ (.int .i64 ((min f.sy N : Nat) : Int))).drewN j) := by
          rintro a' c' w1 z' j rfl hz hc1 hc2 h' st
          have hF := h'.fl f (List.mem_of_getElem? p2)
          have htl : (f.b.take N).length = N := by rw [List.length_take]; omega
          have ho := owns_set (owns_set h'.own (g := g) rfl (k * 3 + 1) (.slice f.a N c')) (g := g) rfl (k * 3 + 2) (.int .i64 ((min f.sy N : Nat) : Int))
          have e := flat_both (f := f) (f' := ⟨f.nm, f.b.take N, min f.sy N, f.a, c'⟩) rfl p2
          unfold RF.v at e
          simp only [htl] at e
          rw [← e] at ho
          have hk : Kp (fun j => tg j = .mp) w1 ((w1.setCell ⟨g, k * 3 + 1, none⟩ (.slice f.a N c')).setCell ⟨g, k * 3 + 2, none⟩ (.int .i64 ((min f.sy N : Nat) : Int))) := (Kp.of_set (S := fun j => tg j = .mp) w1 ⟨g, k * 3 + 1, none⟩ (.slice f.a N c') (h.tm g rfl)).trans (Kp.of_set (S := fun j => tg j = .mp) _ ⟨g, k * 3 + 2, none⟩ (.int .i64 ((min f.sy N : Nat) : Int)) (h.tm g rfl)) fun _ _ e => e
          have hF1 : RFAt w1 tg ⟨f.nm, f.b.take N, min f.sy N, f.a, c'⟩ := by
            refine ⟨?_, hz, by simp only [htl]; omega, ?_, by simp only [htl]; exact hc1, hc2⟩
            · rcases hF.row with h1 | ⟨g1, o1, h1, h2, h3⟩
              · exact .inl (by simp [h1])
              · refine .inr ⟨g1, o1, h1, fun i x hx => h2 i x ?_, h3⟩
                rw [List.getElem?_take] at hx
                split at hx
                · exact hx
                · cases hx
            · simp only [htl]
              have := hF.hl
              omega
          obtain ⟨r, st2⟩ := h'.recell (f' := ⟨f.nm, f.b.take N, min f.sy N, f.a, c'⟩) (tg' := tg) p2 rfl ho hk (fun _ _ => rfl) (fun _ hj => .inl hj) (hF1.keep (fun j hj => hk.block j (h'.lt j (by rw [hj]; exact nofun)) (by rw [hj]; exact nofun)) fun _ hj => hj)
          unfold RF.s at r
          simp only [hn] at r
          rw [burn_fs, h.fs] at r
          exact ⟨⟨_, _, z', r.drew j⟩, (st.trans st2).drew j⟩
        cases ha : f.a with
        | some ad =>
          unfold RF.v at c1
          rw [ha] at hbl c1
          refine (rtr_ok w pb k s N _ H H2 l.length g c f.b.length f.c f.sy ad _ _ _ hlt hN hF0.hc h.cell c1 hbl).mono ?_
          rintro e w' ⟨rfl, w1, j, ⟨⟨z', h'⟩, st⟩, rfl⟩
          obtain ⟨r1, r2⟩ := key (some ad) N w1 z' j ha.symm nofun (Nat.le_refl _) (by have := hF0.hl; omega) h' st
          exact ⟨rfl, tg, r1, r2⟩
        | none =>
          have hc0 := hF0.hz ha
          have hb0 : f.b.length = 0 := by have := hF0.hc; omega
          have hs0 : f.sy = 0 := by have := hF0.hs; omega
          have hN0 : N = 0 := by omega
          subst hN0
          rw [ha, hb0, hc0, hs0] at hbl
          unfold RF.v at c1
          rw [ha, hb0, hc0] at c1
          refine (rtr_ok0 w pb k s _ H H2 l.length g c _ _ _ hlt h.cell c1 hbl).mono ?_
          rintro e w' ⟨rfl, w1, j, ⟨⟨z', h'⟩, st⟩, rfl⟩
          obtain ⟨r1, r2⟩ := key none 0 w1 z' j ha.symm (fun _ => rfl) (Nat.le_refl _) (by omega) h' st
          rw [hs0] at r1 r2
          refine ⟨rfl, tg, ?_, r2⟩
          show Ref _ tg pb ⟨upd Fil.nm s ⟨s, f.b.take 0, min f.sy 0⟩ (l.map RF.s), (burn D).2.down, (burn D).2.fuse⟩
          rw [hs0]
          exact r1
end Go.Proofs.Ytnohidalomjfmaa
