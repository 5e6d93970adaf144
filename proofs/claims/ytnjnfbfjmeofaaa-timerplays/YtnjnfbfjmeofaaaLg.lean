/-
  TimerLatest's law.
-/
import Derived.Test.YtnjnfbfjmeofaaaLf
namespace Go.Proofs.Ytnjnfbfjmeofaaa
open Go.RowKit Go.Maps Go.WideMaps

theorem drp_hit {a : Al} {n : List UInt8} (l : List Al) (h : a.k = n) : drp n (a :: l) = drp n l := by
  unfold drp
  rw [List.filter_cons_of_neg (by simp [h])]
theorem drp_miss {a : Al} {n : List UInt8} (l : List Al) (h : a.k ≠ n) : drp n (a :: l) = a :: drp n l := by
  unfold drp
  rw [List.filter_cons_of_pos (by simpa using h)]
theorem fnd_hit {a : Al} {n : List UInt8} (l : List Al) (h : a.k = n) : fnd n (a :: l) = some a := by
  unfold fnd
  rw [List.find?_cons_of_pos (by simpa using h)]
theorem fnd_miss {a : Al} {n : List UInt8} (l : List Al) (h : a.k ≠ n) : fnd n (a :: l) = fnd n l := by
  unfold fnd
  rw [List.find?_cons_of_neg (by simpa using h)]
theorem fnd_h (s : ByteArray) (x : Int) (l : List Al) : fnd s.data.toList (⟨s, x⟩ :: l) = some ⟨s, x⟩ := fnd_hit l rfl
theorem drp_h (s : ByteArray) (x : Int) (l : List Al) : drp s.data.toList (⟨s, x⟩ :: l) = drp s.data.toList l := drp_hit l rfl
theorem fnd_nil (n : List UInt8) : fnd n [] = none := rfl
theorem drp_nil (n : List UInt8) : drp n [] = [] := rfl
theorem ins_two (a b : Al) : ins a [b] = [a, b] ∨ ins a [b] = [b, a] := by
  unfold ins
  split
  · exact .inl rfl
  · exact .inr rfl
theorem setR_new {s : ByteArray} {x : Int} {R : List Al} (h : fnd s.data.toList R = none) (hl : R.length < 1024) : setR s x R = ins ⟨s, x⟩ R ∧ setC s.data.toList R = 0 := by
  unfold setR setC
  rw [h, decide_eq_false (by omega), drp_none (fnd_none h)]
  simp
theorem setR_old {s : ByteArray} {x : Int} {R : List Al} {a : Al} (h : fnd s.data.toList R = some a) : setR s x R = ins ⟨s, x⟩ (drp s.data.toList R) ∧ setC s.data.toList R = 0 := by
  unfold setR setC
  rw [h]
  simp
theorem setR_full {s : ByteArray} {x : Int} {R : List Al} (h : fnd s.data.toList R = none) (hl : 1024 ≤ R.length) : setR s x R = R ∧ setC s.data.toList R = 6 := by
  unfold setR setC
  rw [h, decide_eq_true hl]
  simp
theorem lat3 (s t : ByteArray) (a b c : Int) (h : s.data.toList ≠ t.data.toList) : ∃ R2 R3, setR t c [⟨s, a⟩] = R2 ∧ setC t.data.toList [⟨s, a⟩] = 0 ∧ setR s b R2 = R3 ∧ setC s.data.toList R2 = 0 ∧ R3.length = 2 ∧ fnd s.data.toList R3 = some ⟨s, b⟩ ∧ canC t.data.toList R3 = 0 ∧ drp t.data.toList R3 = [⟨s, b⟩] := by
  have h' : t.data.toList ≠ s.data.toList := fun q => h q.symm
  have f1 : fnd t.data.toList [⟨s, a⟩] = none := by rw [fnd_miss _ h, fnd_nil]
  obtain ⟨e1, e2⟩ := setR_new (x := c) f1 (show 1 < 1024 by decide)
  have k1 : fnd s.data.toList (ins ⟨t, c⟩ [⟨s, a⟩]) = some ⟨s, a⟩ ∧ drp s.data.toList (ins ⟨t, c⟩ [⟨s, a⟩]) = [⟨t, c⟩] := by
    rcases ins_two ⟨t, c⟩ ⟨s, a⟩ with q | q
    · rw [q, fnd_miss _ h', fnd_h, drp_miss _ h', drp_h, drp_nil]; exact ⟨rfl, rfl⟩
    · rw [q, fnd_h, drp_h, drp_miss _ h', drp_nil]; exact ⟨rfl, rfl⟩
  obtain ⟨e3, e4⟩ := setR_old (x := b) k1.1
  rw [k1.2] at e3
  refine ⟨_, _, e1, e2, e3, e4, by rw [ins_length]; rfl, ?_⟩
  unfold canC
  rcases ins_two ⟨s, b⟩ ⟨t, c⟩ with q | q
  · rw [q, fnd_h, fnd_miss _ h, fnd_h, drp_miss _ h, drp_h, drp_nil]; exact ⟨rfl, rfl, rfl⟩
  · rw [q, fnd_miss _ h', fnd_h, fnd_h, drp_h, drp_miss _ h, drp_nil]; exact ⟨rfl, rfl, rfl⟩
theorem can_no (s t : ByteArray) (b : Int) (h : s.data.toList ≠ t.data.toList) : canC t.data.toList [⟨s, b⟩] = 3 ∧ drp t.data.toList [⟨s, b⟩] = [⟨s, b⟩] := by
  unfold canC
  rw [fnd_miss _ h, fnd_nil, drp_miss _ h, drp_nil]
  exact ⟨rfl, rfl⟩
theorem pw_pre (s : ByteArray) (x y : Int) (h : y < x) : pw y [⟨s, x⟩] = [] ∧ dw y [⟨s, x⟩] = [⟨s, x⟩] := by
  have e : decide (x ≤ y) = false := decide_eq_false (by omega)
  simp [pw, dw, e]
theorem set_first (s : ByteArray) (x : Int) : setR s x [] = [⟨s, x⟩] ∧ setC s.data.toList [] = 0 := ⟨rfl, rfl⟩
set_option maxHeartbeats 4000000 in
set_option maxRecDepth 100000 in
theorem latest_law (s t : ByteArray) (a b c : Int) (w : World) (hs : s.size ≤ 140737488351232) (ht : t.size ≤ 140737488351232) (hb0 : -9223372036854775808 ≤ b) (hb1 : b ≤ 9223372036854775807) :
    Calls Try.prog 5 #[.string s, .string t, .agg #[.int .i64 a, .int .i64 b, .int .i64 c]] w fun e w' => e = .returned (.bool true) ∧ Below w.heap.size w w' := by
  have hs' : s.size ≤ maxLen := Nat.le_trans hs (by decide)
  have ht' : t.size ≤ maxLen := Nat.le_trans ht (by decide)
  have HA : Hid (∀ W, Below w.heap.size w W → Calls Try.prog 9 #[] W fun e w' => e = .returned (.bool true) ∧ Hid (Below w.heap.size w w')) := fun W b => awake_any w W b
  go_enter Try.func5, Try.ntmps5
  go_upto_region 1 with fail
  have B0 : Hid (Below w.heap.size w (w.alloc (.cells #[.int .i64 a, .int .i64 b, .int .i64 c] 49 (0, 0)))) := (Below.refl _ w).alloc (Nat.le_refl _) _
  have N0 : (w.alloc (.cells #[.int .i64 a, .int .i64 b, .int .i64 c] 49 (0, 0))).heap[w.heap.size]? = some (.cells #[.int .i64 a, .int .i64 b, .int .i64 c] 49 (0, 0)) := new0
  generalize w.alloc (.cells #[.int .i64 a, .int .i64 b, .int .i64 c] 49 (0, 0)) = W0 at *
  have z0 : W0.cell? ⟨w.heap.size, 0, none⟩ = some (.int .i64 a) := by rw [cell_of N0]; rfl
  have z1 : W0.cell? ⟨w.heap.size, 1, none⟩ = some (.int .i64 b) := by rw [cell_of N0]; rfl
  have z2 : W0.cell? ⟨w.heap.size, 2, none⟩ = some (.int .i64 c) := by rw [cell_of N0]; rfl
  clear N0
  have HA0 : Hid (∀ n, Calls Try.prog 9 #[] (W0.drewN n) fun e w' => e = .returned (.bool true) ∧ Hid (Below w.heap.size w w')) := fun n => HA.out _ (below_drewN B0.out n)
  go_quiet (fail)
  clear z0 z1 z2
  by_cases hst : s.data.toList = t.data.toList
  · have e := nm_of hst
    subst e
    go_upto_region 3 with (go_at_call 9; refine (HA0.out _).mono ?_; rintro e w1 ⟨rfl, b1⟩)
    go_wp2_with (go_at_call 9; refine (HA.out _ b1.out).mono ?_; rintro e w2 ⟨rfl, b2⟩)
    go_ret
    exact ⟨rfl, b2.out⟩
  · have hne : (s.toList == t.toList) = false := by rw [Lib.toList_data, Lib.toList_data]; simpa using hst
    obtain ⟨R2, R3, r1, r2, r3, r4, r5, r6, r7, r8⟩ := lat3 s t a b c hst
    obtain ⟨r9, r10⟩ := can_no s t b hst
    have HN : Hid (∀ W, Below w.heap.size w W → Calls Try.prog 10 #[] W fun e w' => e = .returned (.pointer (some ⟨W.heap.size, 0, none⟩)) ∧ Hid (LL w w' W.heap.size NX [])) := fun W b => (l_new w W b).mono fun e w' h => ⟨h.1, h.2.1⟩
    have HS1 : Hid (∀ W cb, LL w W cb NX [] → Calls Try.prog 16 #[.pointer (some ⟨cb, 0, none⟩), .string s, .int .i64 a] W fun e w' => e = .returned (.int .i64 0) ∧ Hid (LL w w' cb NX [⟨s, a⟩])) := fun W cb h => l_set h s a (by omega)
    have HS2 : Hid (∀ W cb, LL w W cb NX [⟨s, a⟩] → Calls Try.prog 16 #[.pointer (some ⟨cb, 0, none⟩), .string t, .int .i64 c] W fun e w' => e = .returned (.int .i64 0) ∧ Hid (LL w w' cb NX R2)) := fun W cb h => by have := l_set h t c (by omega); rw [r1, r2] at this; exact this
    have HS3 : Hid (∀ W cb, LL w W cb NX R2 → Calls Try.prog 16 #[.pointer (some ⟨cb, 0, none⟩), .string s, .int .i64 b] W fun e w' => e = .returned (.int .i64 0) ∧ Hid (LL w w' cb NX R3)) := fun W cb h => by have := l_set h s b (by omega); rw [r3, r4] at this; exact this
    have HG : Hid (∀ W cb, LL w W cb NX R3 → Calls Try.prog 18 #[.pointer (some ⟨cb, 0, none⟩), .string s] W fun e w' => e = .returned (.tuple #[.int .i64 b, .int .i64 0]) ∧ w' = W) := fun W cb h => by have := l_get h s hs'; rw [r6] at this; exact this
    have HL : Hid (∀ W cb, LL w W cb NX R3 → Calls Try.prog 12 #[.pointer (some ⟨cb, 0, none⟩)] W fun e w' => e = .returned (.int .i64 2) ∧ w' = W) := fun W cb h => by have := l_len h; rw [r5] at this; exact this
    have HC1 : Hid (∀ W cb, LL w W cb NX R3 → Calls Try.prog 19 #[.pointer (some ⟨cb, 0, none⟩), .string t] W fun e w' => e = .returned (.int .i64 0) ∧ Hid (Calls Try.prog 19 #[.pointer (some ⟨cb, 0, none⟩), .string t] w' fun e w2 => e = .returned (.int .i64 3) ∧ Hid (LL w w2 cb NX [⟨s, b⟩]))) := fun W cb h => by
      have h1 := l_cancel h t ht'
      rw [r7, r8] at h1
      refine h1.mono ?_
      rintro e w' ⟨rfl, h2⟩
      have h3 := l_cancel h2 t ht'
      rw [r9, r10] at h3
      exact ⟨rfl, h3⟩
    have HX : Hid (∀ W cb, LL w W cb NX [⟨s, b⟩] → Calls Try.prog 20 #[.pointer (some ⟨cb, 0, none⟩)] W fun e w' => e = .returned (.tuple #[.agg #[.string s, .int .i64 b], .int .i64 0]) ∧ Hid (LL w w' cb NX [⟨s, b⟩])) := fun W cb h => l_next h
    have HD1 : Hid (∀ X W cb, b > -9000000000000000000 → LL w W cb X [⟨s, b⟩] → Calls Try.prog 14 #[.pointer (some ⟨cb, 0, none⟩), .int .i64 (b - 1)] W fun e w' => ∃ q c', e = .returned (.slice q 0 c') ∧ Hid (LL w w' cb X [⟨s, b⟩])) := fun X W cb _ h => by
      obtain ⟨q1, q2⟩ := pw_pre s b (b - 1) (by omega)
      have := l_due h (b - 1)
      rw [q1, q2] at this
      refine this.mono ?_
      rintro e w' ⟨v, rfl, hr, hl⟩
      obtain ⟨q, c', e⟩ := hr.shape
      exact ⟨q, c', by rw [e]; rfl, hl⟩
    have HD2 : Hid (∀ X W cb, LL w W cb X [⟨s, b⟩] → Calls Try.prog 14 #[.pointer (some ⟨cb, 0, none⟩), .int .i64 b] W fun e w' => ∃ g c', e = .returned (.slice (some ⟨g, 0, none⟩) 1 c') ∧ Hid (w'.cell? ⟨g, 0, none⟩ = some (.string s) ∧ w'.cell? ⟨g, 1, none⟩ = some (.int .i64 b) ∧ LL w w' cb X [])) := fun X W cb h => by
      have := l_due h b
      rw [pw_self, dw_self] at this
      refine this.mono ?_
      rintro e w' ⟨v, rfl, hr, hl⟩
      obtain ⟨g, c', e⟩ := hr.row (Nat.zero_lt_one)
      subst e
      exact ⟨g, c', rfl, hr.c0 (i := 0) rfl, hr.c1 (i := 0) rfl, hl⟩
    have HL0 : Hid (∀ X W cb, LL w W cb X [] → ∀ n, Calls Try.prog 12 #[.pointer (some ⟨cb, 0, none⟩)] (W.drewN n) fun e w' => e = .returned (.int .i64 0) ∧ w' = W.drewN n) := fun X W cb h n => l_len (h.below (below_drewN (Below.refl _ _) n))
    have hwr : Hid (b > -9000000000000000000 → IntKind.i64.wrap (b - 1) = b - 1) := fun q => by rw [IntKind.wrap_i64]; omega
    clear r1 r2 r3 r4 r5 r6 r7 r8 r9 r10 hs ht hs' ht' hst
    go_upto_region 4 with (go_at_call 9; refine (HA0.out _).mono ?_; rintro e w1 ⟨rfl, b1⟩)
    go_upto_region 6 with (first | (go_at_call 10; refine (HN.out _ b1.out).mono ?_; rintro e w2 ⟨rfl, h2⟩) | (go_at_call 16; refine (HS1.out _ _ h2.out).mono ?_; rintro e w3 ⟨rfl, h3⟩))
    clear HS1 HN
    go_upto_region 7 with (go_at_call 16; refine (HS2.out _ _ h3.out).mono ?_; rintro e w4 ⟨rfl, h4⟩)
    clear HS2
    go_upto_region 9 with (first | (go_at_call 16; refine (HS3.out _ _ h4.out).mono ?_; rintro e w5 ⟨rfl, h5⟩) | (go_at_call 18; refine (HG.out _ _ h5.out).mono ?_; rintro e w6 ⟨rfl, rfl⟩))
    clear HS3
    have H12 : Hid (Calls Try.prog 12 #[.pointer (some ⟨w1.heap.size, 0, none⟩)] w6 fun e w' => e = .returned (.int .i64 2) ∧ w' = w6) := HL.out _ _ h5.out
    have H19 := HC1.out _ _ h5.out
    clear HL HC1 HG
    go_upto_region 11 with (first | (go_at_call 12; refine H12.out.mono ?_; rintro e w7 ⟨rfl, rfl⟩) | (go_at_call 19; first | (refine H19b.out.mono ?_; rintro e w9 ⟨rfl, h9⟩) | (refine H19.mono ?_; rintro e w8 ⟨rfl, H19b⟩)))
    have H20 := HX.out _ _ h9.out
    go_upto_region 12 with (go_at_call 20; refine H20.mono ?_; rintro e w10 ⟨rfl, h10⟩)
    have L11 : Hid (LL w (w10.alloc (.cells #[.string s, .int .i64 b] 45 (0, 0))) w1.heap.size (adX NX w10.heap.size (.cells #[.string s, .int .i64 b] 45 (0, 0))) [⟨s, b⟩]) := h10.out.alloc _
    generalize w10.alloc (.cells #[.string s, .int .i64 b] 45 (0, 0)) = w11 at *
    generalize w10.heap.size = bx at *
    have hXX : adX NX bx (.cells #[.string s, .int .i64 b] 45 (0, 0)) bx = some (.cells #[.string s, .int .i64 b] 45 (0, 0)) := by unfold adX; simp
    generalize adX NX bx (.cells #[.string s, .int .i64 b] 45 (0, 0)) = X at *
    have n11 := L11.out.box hXX
    have z0 : w11.cell? ⟨bx, 0, none⟩ = some (.string s) := by rw [cell_of n11]; rfl
    have z1 : w11.cell? ⟨bx, 1, none⟩ = some (.int .i64 b) := by rw [cell_of n11]; rfl
    clear n11 H19 H12 H20 HX
    have FIN : Hid (∀ W, LL w W w1.heap.size X [⟨s, b⟩] → Calls Try.prog 14 #[.pointer (some ⟨w1.heap.size, 0, none⟩), .int .i64 b] W fun e w' => ∃ g c', e = .returned (.slice (some ⟨g, 0, none⟩) 1 c') ∧ Hid (w'.cell? ⟨g, 0, none⟩ = some (.string s) ∧ w'.cell? ⟨g, 1, none⟩ = some (.int .i64 b) ∧ w'.cell? ⟨bx, 0, none⟩ = some (.string s) ∧ w'.cell? ⟨bx, 1, none⟩ = some (.int .i64 b) ∧ (∀ n, Calls Try.prog 12 #[.pointer (some ⟨w1.heap.size, 0, none⟩)] (w'.drewN n) fun e w2 => e = .returned (.int .i64 0) ∧ w2 = w'.drewN n) ∧ ∀ n, Below w.heap.size w (w'.drewN n))) := fun W h => by
      refine (HD2.out X W _ h).mono ?_
      rintro e w' ⟨g, c', rfl, q⟩
      have nb := q.out.2.2.box hXX
      exact ⟨g, c', rfl, q.out.1, q.out.2.1, by rw [cell_of nb]; rfl, by rw [cell_of nb]; rfl, HL0.out _ _ _ q.out.2.2, fun n => below_drewN q.out.2.2.bel n⟩
    by_cases h9 : b > -9000000000000000000
    · have h9' : decide (-9000000000000000000 < b) = true := decide_eq_true h9
      have hw := hwr.out h9
      have H14 : Hid (Calls Try.prog 14 #[.pointer (some ⟨w1.heap.size, 0, none⟩), .int .i64 (b - 1)] w11 fun e w' => ∃ q c', e = .returned (.slice q 0 c') ∧ Hid (LL w w' w1.heap.size X [⟨s, b⟩])) := HD1.out X _ _ h9 L11.out
      clear h9 HD1 HD2 HL0 hwr
      go_upto_region 16 with (go_at_call 14; refine H14.out.mono ?_; rintro e w12 ⟨q, c', rfl, h12⟩)
      have H14b := FIN.out _ h12.out
      go_upto_region 17 with (go_at_call 14; refine H14b.mono ?_; rintro e w13 ⟨g, c2, rfl, h13⟩)
      obtain ⟨d0, d1, d2, d3, HLL, HBB⟩ := h13.out
      have HLL' : Hid (∀ n, Calls Try.prog 12 #[.pointer (some ⟨w1.heap.size, 0, none⟩)] (w13.drewN n) fun e w2 => e = .returned (.int .i64 0) ∧ ∃ m, w2 = (w13.drewN n).drewN m) := fun n => (HLL n).mono fun e w2 h => ⟨h.1, 0, h.2⟩
      have HBB' : Hid (∀ n, Below w.heap.size w (w13.drewN n)) := HBB
      clear HLL HBB h13 FIN H14b H14 z0 z1
      go_quiet ((go_at_call 12; exact Calls.quiet_of (HLL'.out _)))
      go_wp2_with fail
      go_ret
      exact ⟨rfl, HBB'.out _⟩
    · have h9' : decide (-9000000000000000000 < b) = false := decide_eq_false h9
      clear h9 HD1 HD2 HL0 hwr
      have H14b := FIN.out _ L11.out
      go_upto_region 17 with (go_at_call 14; refine H14b.mono ?_; rintro e w13 ⟨g, c2, rfl, h13⟩)
      obtain ⟨d0, d1, d2, d3, HLL, HBB⟩ := h13.out
      have HLL' : Hid (∀ n, Calls Try.prog 12 #[.pointer (some ⟨w1.heap.size, 0, none⟩)] (w13.drewN n) fun e w2 => e = .returned (.int .i64 0) ∧ ∃ m, w2 = (w13.drewN n).drewN m) := fun n => (HLL n).mono fun e w2 h => ⟨h.1, 0, h.2⟩
      have HBB' : Hid (∀ n, Below w.heap.size w (w13.drewN n)) := HBB
      clear HLL HBB h13 FIN H14b z0 z1
      go_quiet ((go_at_call 12; exact Calls.quiet_of (HLL'.out _)))
      go_wp2_with fail
      go_ret
      exact ⟨rfl, HBB'.out _⟩
end Go.Proofs.Ytnjnfbfjmeofaaa
