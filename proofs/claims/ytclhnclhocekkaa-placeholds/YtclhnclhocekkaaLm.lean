/-
  The document's Same of slots; PlaceMoves' law.
-/
import Derived.Test.YtclhnclhocekkaaMb
import Derived.Test.YtclhnclhocekkaaMc
import Derived.Test.YtclhnclhocekkaaMe
import Derived.Test.YtclhnclhocekkaaMf
import Derived.Laws.StructEq
namespace Go.Proofs.Ytclhnclhocekkaa
open Go.RowKit Go.Maps Go.WideMaps Go.Sort

theorem eqv (a b c d : Int) (w : World) : (Op.equalIn 9999 41 (.agg #[.int .i64 a, .int .i64 b, .int .i64 c, .int .i64 d]) (.agg #[.int .i64 a, .int .i64 b, .int .i64 c, .int .i64 d])).run Try.prog w = .ok true w := by
  have eqi (a : Int) (w : World) : (Op.equalIn 9998 2 (.int .i64 a) (.int .i64 a)).run Try.prog w = .ok (a == a) w := run_equalIn_int w 9997 2 .i64 .i64 a a Try.underlying2
  rw [run_equalIn_array w 9998 _ _ Try.underlying41 (info_of_underlying Try.underlying2).choose_spec, cells2]
  rw [show List.range 4 = [0, 1, 2, 3] from rfl]
  simp [Op.eqItems, part0, part1, part2, part3, eqi]
theorem prs0 (x y z u v : Value) (w : World) : (part 9 #[x, y, z, u, v] 0).run Try.prog w = .ok x w := by kernel_rfl
theorem prs1 (x y z u v : Value) (w : World) : (part 41 #[x, y, z, u, v] 1).run Try.prog w = .ok (.agg #[y, z, u, v]) w := by kernel_rfl
set_option maxRecDepth 100000 in
theorem eq62 (s : ByteArray) (a b c d : Int) (w : World) : (Op.equalIn 10000 62 (.agg #[.string s, .int .i64 a, .int .i64 b, .int .i64 c, .int .i64 d]) (.agg #[.string s, .int .i64 a, .int .i64 b, .int .i64 c, .int .i64 d])).run Try.prog w = .ok true w := by
  have eqs (w : World) : (Op.equalIn 9999 9 (.string s) (.string s)).run Try.prog w = .ok (s.toList == s.toList) w := run_equalIn_string w 9998 9 s s Try.underlying9
  rw [run_equalIn_struct w 9999 62 _ _ Try.underlying62 (by kernel_rfl)]
  simp [Program.fieldsOf, Try.underlying62, Op.eqFields, prs0, prs1, eqv, eqs]
set_option maxHeartbeats 2000000 in
set_option maxRecDepth 100000 in
theorem sames_any (w : World) (n c1' c2' : Nat) (q1 q2 : Option Addr) (L : List Sl) (h1 : Hid (SA w q1 L)) (h2 : Hid (SA w q2 L)) (hl : Hid (L.length = n)) (hn : n ≤ 1000000) :
    Calls Try.prog 18 #[.slice q1 n c1', .slice q2 n c2'] w fun e w' => e = .returned (.bool true) ∧ Hid (Below w.heap.size w w') := by
  go_enter Try.func18, Try.ntmps18
  go_wp2_with fail
  go_loopw [5] (fun x wr => ∃ k : Nat, x = .int .i64 k ∧ k ≤ n ∧ Hid (Below w.heap.size w wr)) (fun x _ => n - (intOf x).toNat)
  case atStart => exact ⟨0, rfl, Nat.zero_le _, Below.refl _ _⟩
  case round =>
    obtain ⟨k, rfl, hk, HB⟩ := hrel
    by_cases h0 : k = n
    · subst h0
      go_wp2_with fail
      go_ret
      exact ⟨rfl, HB⟩
    · have hlt' : (k : Int) < (n : Int) := by omega
      obtain ⟨a, ha⟩ : ∃ a, L[k]? = some a := ⟨L[k]'(by have := hl.out; omega), List.getElem?_eq_getElem _⟩
      obtain ⟨g1, o1, rfl, a0, a1, a2, a3, a4⟩ := SA.at (h1.out.below HB.out) ha
      obtain ⟨g2, o2, rfl, b0, b1, b2, b3, b4⟩ := SA.at (h2.out.below HB.out) ha
      have HD : Hid (∀ i, Below w.heap.size w (wr.drewN i)) := fun i => below_from HB.out (below_drewN (Below.refl _ wr) i) HB.out.size
      have q62 := eq62 ⟨⟨a.nm⟩⟩ a.v.a a.v.b a.v.c a.v.d
      clear ha h1 h2
      go_wp2_with fail
      go_region
      all_goals go_wp2_with fail
      all_goals exact ⟨⟨k + 1, by simp, by omega, HD.out _⟩, by simp only [intOf]; omega⟩
theorem movG_len (f : V → V → V × Nat) : ∀ (l : List (V × List UInt8)) (S S' : List Sl), movG f l S = some S' → S'.length = S.length ∧ S'.map Sl.nm = S.map Sl.nm
  | [], S, S', h => by cases h; exact ⟨rfl, rfl⟩
  | x :: r, S, S', h => by
    have h' : (stepM f x S).bind (movG f r) = some S' := h
    obtain ⟨s1, h1, h2⟩ := Option.bind_eq_some_iff.1 h'
    obtain ⟨i1, i2⟩ := movG_len f r s1 S' h2
    unfold stepM at h1
    split at h1
    · cases h1
    · rename_i k hk
      split at h1
      · cases h1
        obtain ⟨a, ha, _⟩ := plc_some hk
        have e : S.getD k default = a := by rw [List.getD_eq_getElem?_getD, ha]; rfl
        rw [List.length_set] at i1
        rw [e, set_nm ha] at i2
        exact ⟨i1, i2⟩
      · cases h1
theorem movR_len (f : V → V → V × Nat) (T : List V) (N : List (List UInt8)) (S : List Sl) : ((movR f T N S).1 = 0 ∧ (movR f T N S).2.length = S.length ∧ (movR f T N S).2.map Sl.nm = S.map Sl.nm) ∨ ((movR f T N S).1 ≠ 0 ∧ (movR f T N S).2 = []) := by
  unfold movR
  split
  · split
    · split
      · split
        · exact .inr ⟨by decide, rfl⟩
        · rename_i S' h
          exact .inl ⟨rfl, movG_len f _ _ _ h⟩
      · exact .inr ⟨by decide, rfl⟩
    · exact .inr ⟨by decide, rfl⟩
  · rename_i hc
    exact .inr ⟨hc, rfl⟩
theorem movR_le (f : V → V → V × Nat) (T : List V) (N : List (List UInt8)) (S : List Sl) : (movR f T N S).2.length ≤ S.length := by
  rcases movR_len f T N S with ⟨_, h, _⟩ | ⟨_, h⟩
  · omega
  · rw [h]; exact Nat.zero_le _
theorem few_le {n m : Nat} (h : fewB n m = true) : n ≤ 100 ∧ m ≤ 100 := by unfold fewB at h; simpa using h
set_option maxHeartbeats 4000000 in
set_option maxRecDepth 100000 in
theorem moves_law (q q2 r : Option Addr) (n c n2 c2 m d : Nat) (T : List V) (N : List (List UInt8)) (S : List Sl) (w : World) (hA : Arg w q r n c m d T S) (hN : NA w q2 N) (hNs : ∀ s ∈ N, s.length ≤ 281474976710656) (hn2 : N.length = n2) :
    Calls Try.prog 4 #[.slice q n c, .slice q2 n2 c2, .slice r m d] w fun e w' => e = .returned (.bool true) ∧ Below w.heap.size w w' := by
  have H9 : Hid (∀ w, Calls Try.prog 9 #[] w fun e w' => e = .returned (.bool true) ∧ Hid (Below w.heap.size w w')) := fun w => awake_any w
  have H10 : Hid (∀ w, Calls Try.prog 10 #[.slice q n c, .slice r m d] w fun e w' => e = .returned (.bool (fewB n m)) ∧ Hid (Below w.heap.size w w')) := fun w => few_any q r n c m d w
  have HA : Hid (Arg w q r n c m d T S ∧ NA w q2 N ∧ (∀ s ∈ N, s.length ≤ 281474976710656) ∧ N.length = n2) := ⟨hA, hN, hNs, hn2⟩
  clear hA hN hNs hn2
  cases hf : fewB n m with
  | false =>
    rw [hf] at H10
    go_enter Try.func4, Try.ntmps4
    go_upto_region 2 with (first | (go_at_call 9; refine (H9.out _).mono ?_; rintro e w1 ⟨rfl, b1⟩) | (go_at_call 10; refine (H10.out _).mono ?_; rintro e w2 ⟨rfl, b2⟩))
    go_wp2_with (go_at_call 9; refine (H9.out _).mono ?_; rintro e w3 ⟨rfl, b3⟩)
    go_ret
    exact ⟨rfl, below_from (below_from b1.out b2.out b1.out.size) b3.out (by have := b1.out.size; have := b2.out.size; omega)⟩
  | true =>
    obtain ⟨n1, m1⟩ := few_le hf
    rw [hf] at H10
    clear hf
    by_cases k1 : n2 ≤ 100
    · have k2 : ¬ (100 : Int) < (n2 : Int) := by omega
      have k3 : decide ((100 : Int) < (n2 : Int)) = false := decide_eq_false k2
      have H15 : Hid (∀ w1, Below w.heap.size w w1 → Calls Try.prog 15 #[.slice q n c, .slice q2 n2 c2, .slice r m d] w1 (MovP subR w1 T N S)) := fun w1 b => after_any T N S q q2 r n c n2 c2 m d w1 (HA.out.1.below b) (HA.out.2.1.below b) HA.out.2.2.1 HA.out.2.2.2 (by omega) (by omega) (by omega)
      have H17 : Hid (∀ w1, Below w.heap.size w w1 → Calls Try.prog 17 #[.slice q n c, .slice q2 n2 c2, .slice r m d] w1 (MovP addR w1 T N S)) := fun w1 b => before_any T N S q q2 r n c n2 c2 m d w1 (HA.out.1.below b) (HA.out.2.1.below b) HA.out.2.2.1 HA.out.2.2.2 (by omega) (by omega) (by omega)
      have H13 : Hid (∀ w1, Below w.heap.size w w1 → Calls Try.prog 13 #[.slice r m d] w1 fun e w' => ∃ p c', e = .returned (.slice p m c') ∧ Hid (RR w1.heap.size w' (.slice p m c') S ∧ Below w1.heap.size w1 w')) := fun w1 b => plain_any w1 r m d S (HA.out.1.below b).m (by omega) (HA.out.1.below b).s
      have HP : ∀ (w1 : World) (b0 : Nat) (p : Option Addr) (c' : Nat), Below w.heap.size w w1 → RR b0 w1 (.slice p m c') S → Arg w1 q p n c m c' T S := fun w1 b0 p c' b hr => ⟨(HA.out.1.below b).t, rr_sa hr, HA.out.1.h, HA.out.1.c, rr_nil hr, HA.out.1.n, HA.out.1.m⟩
      have H16 : Hid (∀ w1, Below w.heap.size w w1 → ∀ b0 p c', RR b0 w1 (.slice p m c') S → Calls Try.prog 16 #[.slice q n c, .slice q2 n2 c2, .slice p m c', .bool false] w1 (RMovP subR w1 T N S)) := fun w1 b b0 p c' hr => rmovS T N S q q2 p n c n2 c2 m c' w1 (HP w1 b0 p c' b hr) (HA.out.2.1.below b) HA.out.2.2.2 (by omega) (by omega) (by omega)
      have H16' : Hid (∀ w1, Below w.heap.size w w1 → ∀ b0 p c', RR b0 w1 (.slice p m c') S → Calls Try.prog 16 #[.slice q n c, .slice q2 n2 c2, .slice p m c', .bool true] w1 (RMovP addR w1 T N S)) := fun w1 b b0 p c' hr => rmovA T N S q q2 p n c n2 c2 m c' w1 (HP w1 b0 p c' b hr) (HA.out.2.1.below b) HA.out.2.2.2 (by omega) (by omega) (by omega)
      have HSM : Hid (S.length = m) := HA.out.1.m
      clear HA HP
      go_enter Try.func4, Try.ntmps4
      go_upto_region 3 with (first | (go_at_call 9; refine (H9.out _).mono ?_; rintro e w1 ⟨rfl, b1⟩) | (go_at_call 10; refine (H10.out _).mono ?_; rintro e w2 ⟨rfl, b2⟩))
      have B2 : Hid (Below w.heap.size w w2) := below_from b1.out b2.out b1.out.size
      clear b1 b2 H9 H10 k2 k3
      go_upto_region 4 with (go_at_call 15; refine (H15.out _ B2.out).mono ?_; rintro e w3 ⟨p1, l1, d1, rfl, hl1, h3⟩)
      have B3 : Hid (Below w.heap.size w w3 ∧ SA w3 p1 (movR subR T N S).2) := ⟨below_from B2.out h3.out.2 B2.out.size, h3.out.1.ga slC_len⟩
      clear B2 h3 H15
      go_upto_region 5 with (first | (go_at_call 13; refine (H13.out _ B3.out.1).mono ?_; rintro e w4 ⟨p, c', rfl, h4⟩; have B4 : Hid (Below w.heap.size w w4 ∧ SA w4 p1 (movR subR T N S).2) := ⟨below_from B3.out.1 h4.out.2 B3.out.1.size, B3.out.2.below h4.out.2⟩) | (go_at_call 16; refine (H16.out _ B4.out.1 _ _ _ h4.out.1).mono ?_; rintro e w5 ⟨p2, l2, d2, rfl, hl2, h5⟩))
      have B5 : Hid (Below w.heap.size w w5 ∧ SA w5 p1 (movR subR T N S).2 ∧ SA w5 p2 (movR subR T N S).2) := ⟨below_from B4.out.1 h5.out.2 B4.out.1.size, B4.out.2.below h5.out.2, rr_sa h5.out.1⟩
      clear B3 B4 h4 h5 H16
      go_upto_region 6 with (go_at_call 17; refine (H17.out _ B5.out.1).mono ?_; rintro e w6 ⟨p3, l3, d3, rfl, hl3, h6⟩)
      have B6 : Hid (Below w.heap.size w w6 ∧ SA w6 p1 (movR subR T N S).2 ∧ SA w6 p2 (movR subR T N S).2 ∧ SA w6 p3 (movR addR T N S).2) := ⟨below_from B5.out.1 h6.out.2 B5.out.1.size, B5.out.2.1.below h6.out.2, B5.out.2.2.below h6.out.2, h6.out.1.ga slC_len⟩
      clear B5 h6 H17
      go_upto_region 7 with (first | (go_at_call 13; refine (H13.out _ B6.out.1).mono ?_; rintro e w7 ⟨p', c'', rfl, h7⟩; have B7 : Hid (Below w.heap.size w w7 ∧ SA w7 p1 (movR subR T N S).2 ∧ SA w7 p2 (movR subR T N S).2 ∧ SA w7 p3 (movR addR T N S).2) := ⟨below_from B6.out.1 h7.out.2 B6.out.1.size, B6.out.2.1.below h7.out.2, B6.out.2.2.1.below h7.out.2, B6.out.2.2.2.below h7.out.2⟩) | (go_at_call 16; refine (H16'.out _ B7.out.1 _ _ _ h7.out.1).mono ?_; rintro e w8 ⟨p4, l4, d4, rfl, hl4, h8⟩))
      have B8 : Hid (Below w.heap.size w w8 ∧ SA w8 p1 (movR subR T N S).2 ∧ SA w8 p2 (movR subR T N S).2 ∧ SA w8 p3 (movR addR T N S).2 ∧ SA w8 p4 (movR addR T N S).2) := ⟨below_from B7.out.1 h8.out.2 B7.out.1.size, B7.out.2.1.below h8.out.2, B7.out.2.2.1.below h8.out.2, B7.out.2.2.2.below h8.out.2, rr_sa h8.out.1⟩
      clear B6 B7 h7 h8 H16' H13
      obtain rfl : l1 = l2 := hl1.symm.trans hl2
      obtain rfl : l3 = l4 := hl3.symm.trans hl4
      have hl1' : l1 ≤ 100 := by have := movR_le subR T N S; have := HSM.out; omega
      have hl3' : l3 ≤ 100 := by have := movR_le addR T N S; have := HSM.out; omega
      have HL : Hid ((movR subR T N S).2.length = l1 ∧ (movR addR T N S).2.length = l3) := ⟨hl1, hl3⟩
      clear hl1 hl2 hl3 hl4
      have H13a : Hid (Calls Try.prog 13 #[.slice p1 l1 d1] w8 fun e w' => ∃ p c', e = .returned (.slice p l1 c') ∧ Hid (RR w8.heap.size w' (.slice p l1 c') (movR subR T N S).2 ∧ Below w8.heap.size w8 w')) := plain_any w8 p1 l1 d1 (movR subR T N S).2 HL.out.1 (by omega) B8.out.2.1
      go_wp2_with (first
        | (go_at_call 13; refine H13a.out.mono ?_; rintro e w9 ⟨p5, c5, rfl, h9⟩; have B9 : Hid (Below w.heap.size w w9 ∧ SA w9 p5 (movR subR T N S).2 ∧ SA w9 p2 (movR subR T N S).2 ∧ SA w9 p3 (movR addR T N S).2 ∧ SA w9 p4 (movR addR T N S).2) := ⟨below_from B8.out.1 h9.out.2 B8.out.1.size, rr_sa h9.out.1, B8.out.2.2.1.below h9.out.2, B8.out.2.2.2.1.below h9.out.2, B8.out.2.2.2.2.below h9.out.2⟩; clear H13a)
        | (go_at_call 18; refine (sames_any w9 l1 c5 d2 p5 p2 _ B9.out.2.1 B9.out.2.2.1 HL.out.1 (by omega)).mono ?_; rintro e w10 ⟨rfl, h10⟩; have B10 : Hid (Below w.heap.size w w10 ∧ SA w10 p3 (movR addR T N S).2 ∧ SA w10 p4 (movR addR T N S).2) := ⟨below_from B9.out.1 h10.out B9.out.1.size, B9.out.2.2.2.1.below h10.out, B9.out.2.2.2.2.below h10.out⟩; clear B9)
        | (go_at_call 13; refine (plain_any w10 p3 l3 d3 (movR addR T N S).2 HL.out.2 (by omega) B10.out.2.1).mono ?_; rintro e w11 ⟨p6, c6, rfl, h11⟩; have B11 : Hid (Below w.heap.size w w11 ∧ SA w11 p6 (movR addR T N S).2 ∧ SA w11 p4 (movR addR T N S).2) := ⟨below_from B10.out.1 h11.out.2 B10.out.1.size, rr_sa h11.out.1, B10.out.2.2.below h11.out.2⟩; clear B10)
        | (go_at_call 18; refine (sames_any w11 l3 c6 d4 p6 p4 _ B11.out.2.1 B11.out.2.2 HL.out.2 (by omega)).mono ?_; rintro e w12 ⟨rfl, h12⟩; have B12 : Hid (Below w.heap.size w w12) := below_from B11.out.1 h12.out B11.out.1.size; clear B11))
      go_ret
      exact ⟨rfl, B12.out⟩
    · have k2 : (100 : Int) < (n2 : Int) := by omega
      have k3 : decide ((100 : Int) < (n2 : Int)) = true := decide_eq_true k2
      go_enter Try.func4, Try.ntmps4
      go_upto_region 2 with (first | (go_at_call 9; refine (H9.out _).mono ?_; rintro e w1 ⟨rfl, b1⟩) | (go_at_call 10; refine (H10.out _).mono ?_; rintro e w2 ⟨rfl, b2⟩))
      go_wp2_with (go_at_call 9; refine (H9.out _).mono ?_; rintro e w3 ⟨rfl, b3⟩)
      go_ret
      exact ⟨rfl, below_from (below_from b1.out b2.out b1.out.size) b3.out (by have := b1.out.size; have := b2.out.size; omega)⟩
end Go.Proofs.Ytclhnclhocekkaa
