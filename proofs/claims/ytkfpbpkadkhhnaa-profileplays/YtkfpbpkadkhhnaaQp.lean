/-
  ProfilePlays' law.
-/
import Derived.Test.YtkfpbpkadkhhnaaQo
import Derived.Test.YtkfpbpkadkhhnaaLh
namespace Go.Proofs.Ytkfpbpkadkhhnaa
open Go.RowKit Go.Maps Go.Sort

abbrev rZ (C : V) : Obj := .cells #[.int .i64 C.a, .int .i64 C.b, .int .i64 C.c, .int .i64 C.d, .slice none 0 0] 34 (0, 0)
theorem LL.ref {w0 w : World} {pb : Nat} {X : Nat → Option Obj} {C : V} (h : LL w0 w pb X C (fun _ => C) 0) : BE w0 (w.alloc (rZ C)) pb w.heap.size X C [] := by
  have hck := h.ck
  obtain ⟨S, h, e1, e2, e3⟩ := h
  have hs := h.b.size
  refine ⟨S, .slice none 0 0, ⟨h.below ((Below.refl _ w).alloc (Nat.le_refl _) _), ⟨new0, World.ownsRow_nil _ 0 70 6⟩, ⟨hck, trivial, Nat.zero_le _⟩, fun j hj => ?_⟩, e1, fun u => e2 u, e3⟩
  rcases hj with rfl | hj
  · refine ⟨fun q => Nat.lt_irrefl _ (h.m.lt _ q), ?_, hs⟩
    cases hx : X w.heap.size with
    | none => rfl
    | some o => exact absurd (Array.getElem?_eq_some_iff.1 (h.x _ o hx).1).1 (Nat.lt_irrefl _)
  · cases hj
set_option maxHeartbeats 4000000 in
set_option maxRecDepth 100000 in
theorem plays_law (C : V) (q : Option Addr) (n c : Nat) (L : List Opr) (w : World) (hq : Scr w q L) (hn : L.length = n) (hn9 : n ≤ 9223372036854775807) :
    Calls Try.prog 3 #[.agg #[.int .i64 C.a, .int .i64 C.b, .int .i64 C.c, .int .i64 C.d], .slice q n c] w fun e w' => e = .returned (.bool true) ∧ Below w.heap.size w w' := by
  obtain ⟨W, hW⟩ : ∃ W, W = w.alloc (vB C) := ⟨_, rfl⟩
  have hBW : Below w.heap.size w W := by rw [hW]; exact (Below.refl _ w).alloc (Nat.le_refl _) _
  have hbx : W.heap[w.heap.size]? = some (vB C) := by rw [hW]; exact new0
  have HA : Hid (∀ W1, Below W.heap.size W W1 → Calls Try.prog 8 #[] W1 fun e w' => e = .returned (.bool true) ∧ Hid (Below W.heap.size W w')) := fun W1 b => awake_any W W1 b
  have HA0 : Hid (Calls Try.prog 8 #[] W fun e w' => e = .returned (.bool true) ∧ Hid (Below W.heap.size W w')) := HA.out W (Below.refl _ _)
  have HFB : Hid (∀ w', Below W.heap.size W w' → Below w.heap.size w w') := fun w' b => hBW.trans (b.mono hBW.size)
  rw [hW] at HA HA0 HFB
  go_enter Try.func3, Try.ntmps3
  by_cases h2 : 60 < n
  · have h2' : decide ((60 : Int) < (n : Int)) = true := decide_eq_true (by omega)
    clear h2 hn hn9 hW hBW hbx
    go_upto_region 2 with (go_at_call 8; refine HA0.out.mono ?_; rintro e w1 ⟨rfl, b1⟩)
    go_wp2_with (go_at_call 8; refine (HA.out _ b1.out).mono ?_; rintro e w2 ⟨rfl, b2⟩)
    go_ret
    exact ⟨rfl, HFB.out _ b2.out⟩
  have h2' : decide ((60 : Int) < (n : Int)) = false := decide_eq_false (by omega)
  have h2'' : (n : Int) ≤ 60 := by omega
  have HNN : Hid (L.length = n ∧ Scr w q L ∧ L.length ≤ 60) := ⟨hn, hq, by omega⟩
  have HBX : Hid (∀ w', Below W.heap.size W w' → w'.heap[w.heap.size]? = some (vB C)) := fun w' b => at_below b (Nat.le_refl _) hbx
  rw [hW] at HBX
  clear h2 hn hn9 hq hW hBW hbx
  go_upto_region 3 with (go_at_call 8; refine HA0.out.mono ?_; rintro e w1 ⟨rfl, b1⟩)
  have hb1 := HBX.out _ b1.out
  have y1 : Hid (Below w.heap.size w w1) := HFB.out _ b1.out
  clear HA HA0 HFB HBX b1
  obtain ⟨q0, q1, q2, q3, -⟩ := cells4 hb1
  by_cases hC : C.ok = true
  case neg =>
    have HN : Hid (∀ W, Calls Try.prog 9 #[.agg #[.int .i64 C.a, .int .i64 C.b, .int .i64 C.c, .int .i64 C.d]] W fun e w' => e = .returned (.tuple #[.pointer none, .int .i64 4]) ∧ Hid (Below W.heap.size W w')) := fun W => new_bad W C (by simpa using hC)
    have HR : Hid (∀ w, Calls Try.prog 10 #[.agg #[.int .i64 C.a, .int .i64 C.b, .int .i64 C.c, .int .i64 C.d]] w fun e w' => e = .returned (.bool false) ∧ Hid (Below w.heap.size w w')) := fun w => by have := rformed_V C w; rwa [show C.ok = false by simpa using hC] at this
    go_upto_region 4 with (go_at_call 9; refine (HN.out _).mono ?_; rintro e w2 ⟨rfl, b2⟩)
    have hb2 := at_below b2.out (Nat.le_refl _) hb1
    clear q0 q1 q2 q3
    obtain ⟨q0, q1, q2, q3, -⟩ := cells4 hb2
    go_wp2_with (go_at_call 10; refine (HR.out _).mono ?_; rintro e w3 ⟨rfl, b3⟩)
    go_ret
    exact ⟨rfl, (y1.out.trans (b2.out.mono y1.out.size)).trans (b3.out.mono (Nat.le_trans y1.out.size b2.out.size))⟩
  have HN : Hid (Calls Try.prog 9 #[.agg #[.int .i64 C.a, .int .i64 C.b, .int .i64 C.c, .int .i64 C.d]] w1 fun e w' => ∃ pa, e = .returned (.tuple #[.pointer (some ⟨pa, 0, none⟩), .int .i64 0]) ∧ Hid (LL w w' pa (adX NX w.heap.size (vB C)) C (fun _ => C) 0)) := l_new w w1 y1.out C hC (adX NX w.heap.size (vB C)) (oneX hb1)
  have HR : Hid (∀ w, Calls Try.prog 10 #[.agg #[.int .i64 C.a, .int .i64 C.b, .int .i64 C.c, .int .i64 C.d]] w fun e w' => e = .returned (.bool true) ∧ Hid (Below w.heap.size w w')) := fun w => by have := rformed_V C w; rwa [hC] at this
  clear hb1 y1
  go_upto_region 4 with (go_at_call 9; refine HN.out.mono ?_; rintro e w2 ⟨pa, rfl, h2⟩)
  have hb2 : Bx w2 w.heap.size C := h2.out.box (adX_self _ _ _)
  clear HN q0 q1 q2 q3
  obtain ⟨q0, q1, q2, q3, -⟩ := cells4 hb2
  go_upto_region 8 with (go_at_call 10; refine (HR.out _).mono ?_; rintro e w3 ⟨rfl, b3⟩)
  have h3 : Hid (LL w w3 pa (adX NX w.heap.size (vB C)) C (fun _ => C) 0) := h2.out.below b3.out
  have hb3 : Bx w3 w.heap.size C := h3.out.box (adX_self _ _ _)
  clear q0 q1 q2 q3 HR b3 h2 hb2
  obtain ⟨q0, q1, q2, q3, -⟩ := cells4 hb3
  go_upto_region 9 with fail
  obtain ⟨W4, hW4⟩ : ∃ W4, W4 = w3.alloc (rZ C) := ⟨_, rfl⟩
  have h4 : Hid (BE w W4 pa w3.heap.size (adX NX w.heap.size (vB C)) C []) := by show BE _ _ _ _ _ _ _; rw [hW4]; exact h3.out.ref
  rw [← hW4]
  clear hW4 q0 q1 q2 q3 hb3 h3 hC
  generalize w3.heap.size = rb at *
  go_wp2_with fail
  go_loopw [8] (fun t wr => ∃ (k : Nat) (T : List Opr), t = .int .i64 k ∧ Hid (T.length ≤ k ∧ k ≤ n ∧ BE w wr pa rb (adX NX w.heap.size (vB C)) C T)) (fun t _ => n - (intOf t).toNat)
  case atStart => exact ⟨0, [], rfl, Nat.le_refl _, Nat.zero_le _, h4.out⟩
  case round =>
    clear h4
    obtain ⟨k, T, rfl, HK⟩ := hrel
    by_cases hk : k < n
    · have hk' : (k : Int) < (n : Int) := by omega
      obtain ⟨o, ho⟩ : ∃ o, L[k]? = some o := ⟨L[k]'(by have := HNN.out.1; omega), List.getElem?_eq_getElem _⟩
      obtain ⟨g, f0, eq1, hc⟩ := HNN.out.2.1 k o ho
      obtain ⟨c0, c1, c2, c3, c4, c5, c6⟩ := hc.below (BL.ll HK.out.2.2).bel
      have H11 : Hid (Calls Try.prog 11 #[.pointer (some ⟨pa, 0, none⟩), .pointer (some ⟨rb, 0, none⟩), .agg #[.int .i64 o.kd, .int .i64 o.a, .int .i64 o.b, .int .i64 o.v.a, .int .i64 o.v.b, .int .i64 o.v.c, .int .i64 o.v.d]] wr fun e w' => e = .returned (.bool true) ∧ Hid (∃ T', T'.length ≤ T.length + 1 ∧ BE w w' pa rb (adX NX w.heap.size (vB C)) C T')) := step_any HK.out.2.2 (by have := HK.out.1; omega) o
      have Hk : Hid (k < n ∧ T.length ≤ k) := ⟨hk, HK.out.1⟩
      subst eq1
      clear hk HK ho hc
      obtain ⟨kd, a, b, va⟩ := o
      simp only at c0 c1 c2 c3 c4 c5 c6 H11
      replace c4 : wr.cell? ⟨g, f0 + k * 7 + 4, none⟩ = some (.int .i64 va.b) := c4
      replace c5 : wr.cell? ⟨g, f0 + k * 7 + 5, none⟩ = some (.int .i64 va.c) := c5
      replace c6 : wr.cell? ⟨g, f0 + k * 7 + 6, none⟩ = some (.int .i64 va.d) := c6
      go_wp2_with (go_at_call 11; refine H11.out.mono ?_; rintro e w3 ⟨rfl, h3⟩)
      obtain ⟨T', hT, hE⟩ := h3.out
      obtain ⟨hk, hkT⟩ := Hk.out
      refine ⟨⟨k + 1, T', by simp, by omega, by omega, hE⟩, ?_⟩
      simp [intOf]
      omega
    · have hk' : decide ((k : Int) < (n : Int)) = false := decide_eq_false (by omega)
      have HBB : Hid (∀ w', Below wr.heap.size wr w' → Below w.heap.size w w') := fun w' b => (BL.ll (HK.out.2.2.below b)).bel
      have H13 : Hid (Calls Try.prog 13 #[.pointer (some ⟨pa, 0, none⟩)] wr fun e w' => ∃ (p1 : Option Addr) (n c1 : Nat), e = .returned (.slice p1 n c1) ∧
        Hid (Calls Try.prog 14 #[.pointer (some ⟨rb, 0, none⟩)] w' fun e w2 => ∃ (p2 : Option Addr) (c2 : Nat), e = .returned (.slice p2 n c2) ∧ Hid (Calls Try.prog 12 #[.slice p1 n c1, .slice p2 n c2] w2 fun e w3 => e = .returned (.bool true) ∧ Hid (Below wr.heap.size wr w3)))) := b_steps HK.out.2.2
      clear HK
      go_wp2_with (first | (go_at_call 13; refine H13.out.mono ?_; rintro e w1 ⟨p1, n, c1, rfl, h1⟩) | (go_at_call 14; refine h1.out.mono ?_; rintro e w2 ⟨p2, c2, rfl, h2⟩) | (go_at_call 12; refine h2.out.mono ?_; rintro e w3 ⟨rfl, h3⟩))
      go_ret
      exact ⟨rfl, HBB.out _ h3.out⟩
end Go.Proofs.Ytkfpbpkadkhhnaa
