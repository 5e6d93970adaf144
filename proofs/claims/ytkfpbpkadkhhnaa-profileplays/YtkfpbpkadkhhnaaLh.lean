/-
  ProfileOrder's law.
-/
import Derived.Test.YtkfpbpkadkhhnaaLg
namespace Go.Proofs.Ytkfpbpkadkhhnaa
open Go.RowKit Go.Maps Go.Sort

/-- the first loop -/
structure O1 (w wr : World) (pa pb bx : Nat) (C : V) (L : List Opr) (k : Nat) : Prop where
  l : LL w wr pa (adX (adX NX bx (vB C)) pb (pZ C)) C (plF (fun _ => C) (L.take k)) k
  a : AllT (fun _ => C) (L.take k)
  k : k ≤ L.length
/-- the second loop: j operations are left -/
structure O2 (w wr : World) (pa pb : Nat) (S : PS) (w9 : World) (L : List Opr) (j : Nat) : Prop where
  l : LL w wr pb (keptX w9 pa S) S.C (plF (fun _ => S.C) (L.reverse.take (L.length - j))) (L.length - j)
  m : Mem w9 pa S
  o : Ok S
  f : ∀ u, fa S.C S.l u = plF (fun _ => S.C) L u
  a : AllT (fun _ => S.C) L.reverse
  j : j ≤ L.length
  n : L.length ≤ 100
theorem O1.take {w wr : World} {pa pb bx : Nat} {C : V} {L : List Opr} {k : Nat} (h : O1 w wr pa pb bx C L k) {o : Opr} (ho : L[k]? = some o) :
    Calls Try.prog 15 #[.pointer (some ⟨pa, 0, none⟩), .int .i64 o.a, .int .i64 o.b, .agg #[.int .i64 o.v.a, .int .i64 o.v.b, .int .i64 o.v.c, .int .i64 o.v.d]] wr.drew fun e w' => ∃ x, e = .returned (.int .i64 x) ∧ Hid ((x = 0 → O1 w w' pa pb bx C L (k + 1)) ∧ Below w.heap.size w w') := by
  refine (l_take (h.l.below (w' := wr.drew) ((Below.refl _ _).drew)) o.a o.b o.v).mono ?_
  rintro e w' ⟨rfl, h'⟩
  refine ⟨_, rfl, fun hz => ?_, h'.bel⟩
  have hl := (List.getElem?_eq_some_iff.1 ho).1
  have ht : L.take (k + 1) = L.take k ++ [o] := by rw [List.take_add_one, ho]; rfl
  obtain ⟨z1, z2, z3, z4⟩ := tkC_zero hz
  unfold stF stN at h'
  rw [if_pos hz, if_pos hz, ← plF_snoc, ← ht] at h'
  exact ⟨h', by rw [ht]; exact AllT.snoc.2 ⟨h.a, z1, z2, z4⟩, hl⟩
theorem O1.swap {w wr : World} {pa pb bx : Nat} {C : V} {L : List Opr} (h : O1 w wr pa pb bx C L L.length) (hn : L.length ≤ 100) (hpb : w.heap.size ≤ pb) : ∃ S, S.C = C ∧ O2 w wr pa pb S wr L L.length := by
  obtain ⟨S, hS, rfl, e2, e3⟩ := h.l
  have ha := h.a
  rw [List.take_length] at ha e2
  refine ⟨S, rfl, ?_, hS.m, hS.o, e2, ha.rev fun u => ?_, Nat.le_refl _, hn⟩
  · rw [Nat.sub_self, List.take_zero]
    exact hS.swap (adX_self _ _ _) hpb
  · have := V.ok_iff.1 hS.o.p.ck
    show V.nil.le S.C
    unfold V.le V.nil
    simp only
    omega
theorem O2.take {w wr w9 : World} {pa pb : Nat} {S : PS} {L : List Opr} {j : Nat} (h : O2 w wr pa pb S w9 L (j + 1)) {o : Opr} (ho : L[j]? = some o) :
    Calls Try.prog 15 #[.pointer (some ⟨pb, 0, none⟩), .int .i64 o.a, .int .i64 o.b, .agg #[.int .i64 o.v.a, .int .i64 o.v.b, .int .i64 o.v.c, .int .i64 o.v.d]] wr.drew fun e w' => e = .returned (.int .i64 0) ∧ Hid (O2 w w' pa pb S w9 L j) := by
  have hj := h.j
  have hn := h.n
  have hr : L.reverse[L.length - (j + 1)]? = some o := by
    rw [List.getElem?_reverse (by omega), show L.length - 1 - (L.length - (j + 1)) = j by omega]
    exact ho
  have ht : L.reverse.take (L.length - j) = L.reverse.take (L.length - (j + 1)) ++ [o] := by
    rw [show L.length - j = L.length - (j + 1) + 1 by omega, List.take_add_one, hr]; rfl
  have ha := h.a
  rw [← List.take_append_drop (L.length - j) L.reverse, ht] at ha
  obtain ⟨a1, a2, a3, a4⟩ := AllT.snoc.1 (AllT.append.1 ha).1
  have hc : tkC (plF (fun _ => S.C) (L.reverse.take (L.length - (j + 1)))) (L.length - (j + 1)) o.a o.b o.v = 0 := by
    unfold tkC
    rw [if_neg (by rw [a2]; decide), if_neg (by rw [a3]; decide), if_neg (by omega), if_neg (fun q => q a4)]
  refine (l_take (h.l.below (w' := wr.drew) ((Below.refl _ _).drew)) o.a o.b o.v).mono ?_
  rintro e w' ⟨rfl, h'⟩
  unfold stF stN at h'
  rw [if_pos hc, if_pos hc, ← plF_snoc, ← ht, show L.length - (j + 1) + 1 = L.length - j by omega] at h'
  exact ⟨by rw [hc], h', h.m, h.o, h.f, h.a, by omega, h.n⟩
/-- the steps of both -/
theorem O2.steps {w wr w9 : World} {pa pb : Nat} {S : PS} {L : List Opr} (h : O2 w wr pa pb S w9 L 0) :
    Calls Try.prog 13 #[.pointer (some ⟨pa, 0, none⟩)] wr fun e w' => ∃ (p1 : Option Addr) (c1 : Nat), e = .returned (.slice p1 S.l.length c1) ∧
      Hid (Calls Try.prog 13 #[.pointer (some ⟨pb, 0, none⟩)] w' fun e w2 => ∃ (p2 : Option Addr) (c2 : Nat), e = .returned (.slice p2 S.l.length c2) ∧ Hid (Row w2 (.slice p1 S.l.length c1) S.l ∧ Row w2 (.slice p2 S.l.length c2) S.l ∧ Below w.heap.size w w2)) := by
  have h1 := h.o.n
  have h2 := h.o.l
  refine (steps_any (h.l.other h.m) (by omega)).mono ?_
  rintro e w' ⟨v, rfl, k1, k2, k3⟩
  have k4 := k1
  obtain ⟨p1, c1, rfl⟩ := k1.shape
  refine ⟨p1, c1, rfl, ?_⟩
  refine (l_steps (h.l.below k2)).mono ?_
  rintro e w2 ⟨v2, M, rfl, r, b2, _⟩
  have hM : S.l = M := h.o.p.uniq r.p fun u => by
    rw [h.f, r.f, Nat.sub_zero, ← List.length_reverse, List.take_length, plF_rev]
  subst hM
  obtain ⟨p2, c2, rfl⟩ := r.r.shape
  exact ⟨p2, c2, rfl, k4.below b2, r.r, (h.l.bel.trans (k2.mono h.l.bel.size)).trans (b2.mono (Nat.le_trans h.l.bel.size k2.size))⟩
set_option maxHeartbeats 4000000 in
set_option maxRecDepth 100000 in
theorem order_law (C : V) (q : Option Addr) (n c : Nat) (L : List Opr) (w : World) (hq : Scr w q L) (hn : L.length = n) (hn9 : n ≤ 9223372036854775807) :
    Calls Try.prog 6 #[.agg #[.int .i64 C.a, .int .i64 C.b, .int .i64 C.c, .int .i64 C.d], .slice q n c] w fun e w' => e = .returned (.bool true) ∧ Below w.heap.size w w' := by
  obtain ⟨W, hW⟩ : ∃ W, W = w.alloc (vB C) := ⟨_, rfl⟩
  have hBW : Below w.heap.size w W := by rw [hW]; exact (Below.refl _ w).alloc (Nat.le_refl _) _
  have hbx : W.heap[w.heap.size]? = some (vB C) := by rw [hW]; exact new0
  have HA : Hid (∀ W1, Below W.heap.size W W1 → Calls Try.prog 8 #[] W1 fun e w' => e = .returned (.bool true) ∧ Hid (Below W.heap.size W w')) := fun W1 b => awake_any W W1 b
  have HA0 : Hid (Calls Try.prog 8 #[] W fun e w' => e = .returned (.bool true) ∧ Hid (Below W.heap.size W w')) := HA.out W (Below.refl _ _)
  have HFB : Hid (∀ w', Below W.heap.size W w' → Below w.heap.size w w') := fun w' b => hBW.trans (b.mono hBW.size)
  rw [hW] at HA HA0 HFB
  go_enter Try.func6, Try.ntmps6
  by_cases h2 : 100 < n
  · have h2' : decide ((100 : Int) < (n : Int)) = true := decide_eq_true (by omega)
    clear h2 hn hn9 hW hBW hbx
    go_upto_region 2 with (go_at_call 8; refine HA0.out.mono ?_; rintro e w1 ⟨rfl, b1⟩)
    go_wp2_with (go_at_call 8; refine (HA.out _ b1.out).mono ?_; rintro e w2 ⟨rfl, b2⟩)
    go_ret
    exact ⟨rfl, HFB.out _ b2.out⟩
  have h2' : decide ((100 : Int) < (n : Int)) = false := decide_eq_false (by omega)
  have h2'' : (n : Int) ≤ 100 := by omega
  have HNN : Hid (L.length = n ∧ Scr w q L ∧ L.length ≤ 100) := ⟨hn, hq, by omega⟩
  have HBX : Hid (∀ w', Below W.heap.size W w' → w'.heap[w.heap.size]? = some (vB C)) := fun w' b => at_below b (Nat.le_refl _) hbx
  rw [hW] at HBX
  clear h2 hn hn9 hq hW hBW hbx
  go_upto_region 3 with (go_at_call 8; refine HA0.out.mono ?_; rintro e w1 ⟨rfl, b1⟩)
  have hb1 := HBX.out _ b1.out
  have y1 : Hid (Below w.heap.size w w1) := HFB.out _ b1.out
  clear HA HA0 HFB HBX b1
  obtain ⟨q0, q1, q2, q3, -⟩ := cells4 hb1
  by_cases hC : C.ok = true
  case neg =>
    have HN : Hid (∀ W, Calls Try.prog 9 #[.agg #[.int .i64 C.a, .int .i64 C.b, .int .i64 C.c, .int .i64 C.d]] W fun e w' => e = .returned (.tuple #[.pointer none, .int .i64 4]) ∧ Hid (Below W.heap.size W w')) := fun W => new_bad W C (by simpa using hC)
    go_upto_region 4 with (go_at_call 9; refine (HN.out _).mono ?_; rintro e w2 ⟨rfl, b2⟩)
    have hb2 := at_below b2.out (Nat.le_refl _) hb1
    clear q0 q1 q2 q3
    obtain ⟨q0, q1, q2, q3, -⟩ := cells4 hb2
    go_wp2_with (go_at_call 9; refine (HN.out _).mono ?_; rintro e w3 ⟨rfl, b3⟩)
    go_ret
    exact ⟨rfl, (y1.out.trans (b2.out.mono y1.out.size)).trans (b3.out.mono (Nat.le_trans y1.out.size b2.out.size))⟩
  have HN : Hid (Calls Try.prog 9 #[.agg #[.int .i64 C.a, .int .i64 C.b, .int .i64 C.c, .int .i64 C.d]] w1 fun e w' => ∃ pa, e = .returned (.tuple #[.pointer (some ⟨pa, 0, none⟩), .int .i64 0]) ∧ Hid (LL w w' pa (adX NX w.heap.size (vB C)) C (fun _ => C) 0)) := l_new w w1 y1.out C hC (adX NX w.heap.size (vB C)) (oneX hb1)
  have HN2 : Hid (∀ pa W, LL w W pa (adX NX w.heap.size (vB C)) C (fun _ => C) 0 → Calls Try.prog 9 #[.agg #[.int .i64 C.a, .int .i64 C.b, .int .i64 C.c, .int .i64 C.d]] W fun e w' => ∃ pb, e = .returned (.tuple #[.pointer (some ⟨pb, 0, none⟩), .int .i64 0]) ∧ Hid (O1 w w' pa pb w.heap.size C L 0) ∧ Hid (w.heap.size ≤ pb)) := fun pa W h => by
    refine (new_raw W C hC).mono ?_
    rintro e w' ⟨w3, rfl, b3, rfl⟩
    have h3 := h.below b3
    exact ⟨_, rfl, ⟨h3.alloc (pZ C), trivial, Nat.zero_le _⟩, h3.bel.size⟩
  clear hb1 y1
  go_upto_region 4 with (go_at_call 9; refine HN.out.mono ?_; rintro e w2 ⟨pa, rfl, h2⟩)
  have hb2 : Bx w2 w.heap.size C := h2.out.box (adX_self _ _ _)
  clear HN q0 q1 q2 q3
  obtain ⟨q0, q1, q2, q3, -⟩ := cells4 hb2
  go_upto_region 7 with (go_at_call 9; refine (HN2.out pa _ h2.out).mono ?_; rintro e w3 ⟨pb, rfl, h3, hpb⟩)
  clear HN2 q0 q1 q2 q3 hb2 h2
  go_wp2_with fail
  go_loopw [9] (fun t wr => ∃ k : Nat, t = .int .i64 k ∧ Hid (O1 w wr pa pb w.heap.size C L k)) (fun t _ => n - (intOf t).toNat)
  case atStart => exact ⟨0, rfl, h3.out⟩
  case round =>
    clear h3
    obtain ⟨k, rfl, HK⟩ := hrel
    by_cases hk : k < n
    · have hk' : (k : Int) < (n : Int) := by omega
      obtain ⟨o, ho⟩ : ∃ o, L[k]? = some o := ⟨L[k]'(by have := HNN.out.1; omega), List.getElem?_eq_getElem _⟩
      obtain ⟨g, f0, eq1, hc⟩ := HNN.out.2.1 k o ho
      obtain ⟨c0, c1, c2, c3, c4, c5, c6⟩ := hc.below HK.out.l.bel
      have H15 : Hid (Calls Try.prog 15 #[.pointer (some ⟨pa, 0, none⟩), .int .i64 o.a, .int .i64 o.b, .agg #[.int .i64 o.v.a, .int .i64 o.v.b, .int .i64 o.v.c, .int .i64 o.v.d]] wr.drew fun e w' => ∃ x, e = .returned (.int .i64 x) ∧ Hid ((x = 0 → O1 w w' pa pb w.heap.size C L (k + 1)) ∧ Below w.heap.size w w')) := HK.out.take ho
      have Hk : Hid (k < n) := hk
      subst eq1
      clear hk HK ho hc c0
      obtain ⟨kd, a, b, va⟩ := o
      simp only at c1 c2 c3 c4 c5 c6 H15
      go_upto_region 10 with fail
      go_region_with (first | (go_at_call 15; refine H15.out.mono ?_; rintro e w3 ⟨x, rfl, h3⟩))
      all_goals by_cases hx : x = 0
      all_goals first
        | (subst hx
           have hO : Hid (O1 w w3 pa pb w.heap.size C L (k + 1)) := h3.out.1 rfl
           clear h3
           go_wp2_with fail
           have := Hk.out
           refine ⟨⟨k + 1, by simp, hO.out⟩, ?_⟩
           simp [intOf]
           omega)
        | (have hx' : (x != 0) = true := by simpa using hx
           have hB : Hid (Below w.heap.size w w3) := h3.out.2
           clear h3
           go_wp2_with fail
           go_ret
           exact ⟨rfl, hB.out⟩)
    · have hk' : decide ((k : Int) < (n : Int)) = false := decide_eq_false (by omega)
      obtain ⟨S, hSC, hO2⟩ : ∃ S, S.C = C ∧ O2 w wr pa pb S wr L L.length := by
        have h1 := HNN.out.1
        have h2 := HK.out.k
        have h3 : k = L.length := by omega
        have h4 := HK.out
        rw [h3] at h4
        exact h4.swap HNN.out.2.2 hpb.out
      obtain ⟨w9, hw9⟩ : ∃ w9, w9 = wr := ⟨_, rfl⟩
      have HO2 : Hid (O2 w wr pa pb S w9 L L.length) := by rw [hw9]; exact hO2
      have hlen : Hid (L.length = n) := HNN.out.1
      clear hO2 hSC HK hw9
      have hn1 : IntKind.i64.wrap ((n : Int) - 1) = (n : Int) - 1 := by rw [IntKind.wrap_i64]; omega
      go_wp2_with fail
      go_loopw [10] (fun t wr => ∃ (x : Int) (j : Nat), t = .int .i64 x ∧ Hid (x = (j : Int) - 1) ∧ Hid (O2 w wr pa pb S w9 L j)) (fun t _ => (intOf t + 1).toNat)
      case atStart => exact ⟨_, L.length, rfl, by have := hlen.out; show (n : Int) - 1 = _; omega, HO2.out⟩
      case round =>
        clear HO2
        obtain ⟨x, j, rfl, hx, HO⟩ := hrel
        cases j with
        | zero =>
          obtain rfl : x = -1 := by have := hx.out; omega
          have H13 : Hid (Calls Try.prog 13 #[.pointer (some ⟨pa, 0, none⟩)] wr fun e w' => ∃ (p1 : Option Addr) (c1 : Nat), e = .returned (.slice p1 S.l.length c1) ∧
            Hid (Calls Try.prog 13 #[.pointer (some ⟨pb, 0, none⟩)] w' fun e w2 => ∃ (p2 : Option Addr) (c2 : Nat), e = .returned (.slice p2 S.l.length c2) ∧ Hid (Row w2 (.slice p1 S.l.length c1) S.l ∧ Row w2 (.slice p2 S.l.length c2) S.l ∧ Below w.heap.size w w2))) := HO.out.steps
          have hsl : Hid (S.l.length ≤ 8192) := by have := HO.out.o.n; have := HO.out.o.l; show S.l.length ≤ 8192; omega
          clear HO hx
          generalize hsn : S.l.length = sn at *
          have HSN : Hid (S.l.length = sn) := hsn
          clear hsn
          go_upto_region 18 with (first | (go_at_call_of 13 (Value.pointer (some ⟨pa, 0, none⟩)); refine H13.out.mono ?_; rintro e w4 ⟨p1, c1, rfl, h4⟩) | (go_at_call_of 13 (Value.pointer (some ⟨pb, 0, none⟩)); refine h4.out.mono ?_; rintro e w5 ⟨p2, c2, rfl, h5⟩))
          clear H13 h4
          go_wp2_with fail
          go_loopw [13] (fun t wr => ∃ i : Nat, t = .int .i64 i ∧ Hid (i ≤ sn ∧ Row wr (.slice p1 sn c1) S.l ∧ Row wr (.slice p2 sn c2) S.l ∧ Below w.heap.size w wr)) (fun t _ => sn - (intOf t).toNat)
          case atStart => exact ⟨0, rfl, Nat.zero_le _, h5.out⟩
          case round =>
            clear h5
            obtain ⟨i, rfl, HI⟩ := hrel
            have hs8 := hsl.out
            by_cases hi : i < sn
            · have hi' : (i : Int) < (sn : Int) := by omega
              obtain ⟨_, R1, R2, hB⟩ := HI.out
              obtain ⟨s, hs⟩ : ∃ s, S.l[i]? = some s := ⟨_, List.getElem?_eq_getElem (by have := HSN.out; omega)⟩
              obtain ⟨g1, d1, e1⟩ := R1.row (by have := HSN.out; omega)
              obtain ⟨g2, d2, e2⟩ := R2.row (by have := HSN.out; omega)
              injection e1 with e1 _ _
              injection e2 with e2 _ _
              subst e1
              subst e2
              obtain ⟨x0, x1, x2, x3, x4⟩ := R1.cells hs
              obtain ⟨y0, y1, y2, y3, y4⟩ := R2.cells hs
              have heq := eq46 s
              have HF : Hid (∀ m, i + 1 ≤ sn ∧ Row (wr.drewN m) (.slice (some ⟨g1, 0, none⟩) sn c1) S.l ∧ Row (wr.drewN m) (.slice (some ⟨g2, 0, none⟩) sn c2) S.l ∧ Below w.heap.size w (wr.drewN m)) := fun m => ⟨hi, R1.below (below_drewN (Below.refl _ _) m), R2.below (below_drewN (Below.refl _ _) m), below_drewN hB m⟩
              clear R1 R2 hB HI
              go_upto_region 23 with fail
              go_quiet (fail)
              go_wp2_with fail
              refine ⟨⟨i + 1, by simp, HF.out _⟩, ?_⟩
              simp [intOf]
              omega
            · have hi' : decide ((i : Int) < (sn : Int)) = false := decide_eq_false (by omega)
              go_wp2_with fail
              go_ret
              exact ⟨rfl, HI.out.2.2.2⟩
        | succ j =>
          obtain rfl : x = (j : Int) := by have := hx.out; omega
          clear hx
          have hjl := HO.out.j
          have hj' : (j : Int) < (n : Int) := by have := hlen.out; omega
          have hj0 : (0 : Int) ≤ (j : Int) := by omega
          obtain ⟨o, ho⟩ : ∃ o, L[j]? = some o := ⟨L[j]'(by omega), List.getElem?_eq_getElem _⟩
          obtain ⟨g, f0, eq1, hc⟩ := HNN.out.2.1 j o ho
          obtain ⟨c0, c1, c2, c3, c4, c5, c6⟩ := hc.below HO.out.l.bel
          have H15 : Hid (Calls Try.prog 15 #[.pointer (some ⟨pb, 0, none⟩), .int .i64 o.a, .int .i64 o.b, .agg #[.int .i64 o.v.a, .int .i64 o.v.b, .int .i64 o.v.c, .int .i64 o.v.d]] wr.drew fun e w' => e = .returned (.int .i64 0) ∧ Hid (O2 w w' pa pb S w9 L j)) := HO.out.take ho
          have hw2 : IntKind.i64.wrap ((j : Int) - 1) = (j : Int) - 1 := by rw [IntKind.wrap_i64]; omega
          subst eq1
          clear HO ho hc c0
          obtain ⟨kd, a, b, va⟩ := o
          simp only at c1 c2 c3 c4 c5 c6 H15
          go_upto_region 15 with fail
          go_region_with (first | (go_at_call 15; refine H15.out.mono ?_; rintro e w3 ⟨rfl, h3⟩))
          all_goals go_wp2_with fail
          all_goals
            refine ⟨⟨_, j, rfl, rfl, h3.out⟩, ?_⟩
            simp [intOf]
end Go.Proofs.Ytkfpbpkadkhhnaa
