/-
  The ledger's functions Used, Left, Close, add, Open.
-/
import Derived.Test.YtehgcaaeifnjeaaWa
namespace Go.Proofs.Ytehgcaaeifnjeaa
open Go.RowKit Go.Maps Go.WideMaps

theorem cells8 {w : World} {g : Nat} {a b c d e f g' h : Value} {ty : TypeId} (q : w.heap[g]? = some (.cells #[a, b, c, d, e, f, g', h] ty (0, 0))) :
    w.cell? ⟨g, 0, none⟩ = some a ∧ w.cell? ⟨g, 1, none⟩ = some b ∧ w.cell? ⟨g, 2, none⟩ = some c ∧ w.cell? ⟨g, 3, none⟩ = some d ∧ w.cell? ⟨g, 4, none⟩ = some e ∧ w.cell? ⟨g, 5, none⟩ = some f ∧ w.cell? ⟨g, 6, none⟩ = some g' ∧ w.cell? ⟨g, 7, none⟩ = some h ∧ (w.frozen? ⟨g, 0, none⟩ = false ∧ w.frozen? ⟨g, 1, none⟩ = false ∧ w.frozen? ⟨g, 2, none⟩ = false ∧ w.frozen? ⟨g, 3, none⟩ = false ∧ w.frozen? ⟨g, 4, none⟩ = false ∧ w.frozen? ⟨g, 5, none⟩ = false ∧ w.frozen? ⟨g, 6, none⟩ = false ∧ w.frozen? ⟨g, 7, none⟩ = false) ∧ g < w.heap.size :=
  ⟨Lib.cell_of_heap q 0, Lib.cell_of_heap q 1, Lib.cell_of_heap q 2, Lib.cell_of_heap q 3, Lib.cell_of_heap q 4, Lib.cell_of_heap q 5, Lib.cell_of_heap q 6, Lib.cell_of_heap q 7, ⟨fz q 0, fz q 1, fz q 2, fz q 3, fz q 4, fz q 5, fz q 6, fz q 7⟩, (Array.getElem?_eq_some_iff.1 q).1⟩

set_option maxHeartbeats 1000000 in
theorem used_raw (w : World) (p : Value) (s : ByteArray) (fb : Nat) (a b c d e f g h : Int) (hc : Hid (w.heap[fb]? = some (.cells #[.int .i64 a, .int .i64 b, .int .i64 c, .int .i64 d, .int .i64 e, .int .i64 f, .int .i64 g, .int .i64 h] 69 (0, 0)))) (H : Hid (∀ w1, Below w.heap.size w w1 → Calls Try.prog 31 #[p, .string s] w1 fun e w' => e = .returned (.pointer (some ⟨fb, 0, none⟩)) ∧ w' = w1)) : Calls Try.prog 14 #[p, .string s] w fun r w' => r = ansV (⟨e, f, g, h⟩, 0) ∧ Below w.heap.size w w' := by
  go_enter Try.func14, Try.ntmps14
  go_wp2_with (go_at_call 31; refine (H.out _ ((Below.refl _ w).alloc (Nat.le_refl _) _)).mono ?_)
  rintro _ w1 ⟨rfl, rfl⟩
  have z1 := new0 (w := w) (o := .cells #[.int .i64 0, .int .i64 0, .int .i64 0, .int .i64 0] 33)
  have y1 : Hid (Below w.heap.size w (w.alloc (.cells #[.int .i64 0, .int .i64 0, .int .i64 0, .int .i64 0] 33))) := (Below.refl _ w).alloc (Nat.le_refl _) _
  have x1 := at_alloc (o := .cells #[.int .i64 0, .int .i64 0, .int .i64 0, .int .i64 0] 33) hc.out
  generalize w.alloc (.cells #[.int .i64 0, .int .i64 0, .int .i64 0, .int .i64 0] 33) = W at *
  obtain ⟨r0, r1, r2, r3, rf0, rf1, rf2, rf3, rs, rn⟩ := cells4 z1
  obtain ⟨k0, k1, k2, k3, k4, k5, k6, k7, kf, ks⟩ := cells8 x1
  clear H hc kf
  go_wp2_with fail
  have r := at_set4 (v0 := .int .i64 e) (v1 := .int .i64 f) (v2 := .int .i64 g) (v3 := .int .i64 h) z1
  obtain ⟨c0, c1, c2, c3, -⟩ := cells4 r
  refine bodyPost_ret (by simp [results, Try.results14, go_sem, c0, c1, c2, c3]; rfl) rfl ?_
  exact ⟨rfl, (((y1.out.setCell (by simp) _).setCell (by simp) _).setCell (by simp) _).setCell (by simp) _⟩
theorem fnd_s {l : List Ac} (n : List UInt8) : fnd A.nm n (l.map Ac.s) = (fnd Ac.nm n l).map Ac.s := (map_fnd (f := Ac.s) (mn := A.nm) Ac.s_nm n l).symm
theorem used_any {w : World} {S : Nat → Prop} {pb : Nat} {D : List A} (h : Led w S pb D) (s : ByteArray) (hs : s.size ≤ 281474976710656) :
    Calls Try.prog 14 #[.pointer (some ⟨pb, 0, none⟩), .string s] w fun e w' => e = ansV (usedD D s.data.toList) ∧ Below w.heap.size w w' := by
  obtain ⟨⟨mb, l, h1, rfl, h3⟩, h4⟩ := h
  have hfd : ∀ w1, Below w.heap.size w w1 → Calls Try.prog 31 #[.pointer (some ⟨pb, 0, none⟩), .string s] w1 fun e w' => e = .returned (fptr (fnd Ac.nm s.data.toList l)) ∧ w' = w1 := fun w1 b => find_any (h1.keep fun k hk => b.block k (h1.lt hk)) s hs
  unfold usedD
  rw [fnd_s]
  cases hf : fnd Ac.nm s.data.toList l with
  | none => rw [hf] at hfd; exact used_no w _ s hfd
  | some a =>
    rw [hf] at hfd
    exact used_raw w _ s a.fb _ _ _ _ _ _ _ _ (h1.ac a (fnd_some hf).1) hfd

set_option maxHeartbeats 4000000 in
set_option maxRecDepth 100000 in
theorem leftA_any (a b c d e f g h t0 t1 t2 t3 : Int) (w : World) (e0 : IntKind.i64.wrap (a - e) = t0) (e1 : IntKind.i64.wrap (b - f) = t1) (e2 : IntKind.i64.wrap (c - g) = t2) (e3 : IntKind.i64.wrap (d - h) = t3) :
    Calls Try.prog 42 #[.agg #[.int .i64 a, .int .i64 b, .int .i64 c, .int .i64 d, .int .i64 e, .int .i64 f, .int .i64 g, .int .i64 h]] w fun r w' => r = .returned (.agg #[.int .i64 (max 0 t0), .int .i64 (max 0 t1), .int .i64 (max 0 t2), .int .i64 (max 0 t3)]) ∧ Below w.heap.size w w' := by
  have i0 := ix0 (.int .i64 a) (.int .i64 b) (.int .i64 c) (.int .i64 d)
  have i1 := ix1 (.int .i64 a) (.int .i64 b) (.int .i64 c) (.int .i64 d)
  have i2 := ix2 (.int .i64 a) (.int .i64 b) (.int .i64 c) (.int .i64 d)
  have i3 := ix3 (.int .i64 a) (.int .i64 b) (.int .i64 c) (.int .i64 d)
  generalize hm0 : max 0 t0 = m0
  generalize hm1 : max 0 t1 = m1
  generalize hm2 : max 0 t2 = m2
  generalize hm3 : max 0 t3 = m3
  go_enter Try.func42, Try.ntmps42
  go_wp2_with fail
  have x1 := at_alloc (o := .cells #[.int .i64 0, .int .i64 0, .int .i64 0, .int .i64 0] 33) (at_alloc (o := .cells #[.int .i64 0, .int .i64 0, .int .i64 0, .int .i64 0] 33) (new0 (w := w) (o := .cells #[.int .i64 a, .int .i64 b, .int .i64 c, .int .i64 d, .int .i64 e, .int .i64 f, .int .i64 g, .int .i64 h] 69)))
  have x2 := at_alloc (o := .cells #[.int .i64 0, .int .i64 0, .int .i64 0, .int .i64 0] 33) (new1 (w := w) (A := .cells #[.int .i64 a, .int .i64 b, .int .i64 c, .int .i64 d, .int .i64 e, .int .i64 f, .int .i64 g, .int .i64 h] 69) (B := .cells #[.int .i64 0, .int .i64 0, .int .i64 0, .int .i64 0] 33))
  have x3 := new2 (w := w) (A := .cells #[.int .i64 a, .int .i64 b, .int .i64 c, .int .i64 d, .int .i64 e, .int .i64 f, .int .i64 g, .int .i64 h] 69) (B := .cells #[.int .i64 0, .int .i64 0, .int .i64 0, .int .i64 0] 33) (C := .cells #[.int .i64 0, .int .i64 0, .int .i64 0, .int .i64 0] 33)
  have y1 : Hid (Below w.heap.size w (((w.alloc (.cells #[.int .i64 a, .int .i64 b, .int .i64 c, .int .i64 d, .int .i64 e, .int .i64 f, .int .i64 g, .int .i64 h] 69)).alloc (.cells #[.int .i64 0, .int .i64 0, .int .i64 0, .int .i64 0] 33)).alloc (.cells #[.int .i64 0, .int .i64 0, .int .i64 0, .int .i64 0] 33))) := (((Below.refl _ w).alloc (Nat.le_refl _) _).alloc (by simp) _).alloc (by simp; omega) _
  generalize ((w.alloc (.cells #[.int .i64 a, .int .i64 b, .int .i64 c, .int .i64 d, .int .i64 e, .int .i64 f, .int .i64 g, .int .i64 h] 69)).alloc (.cells #[.int .i64 0, .int .i64 0, .int .i64 0, .int .i64 0] 33)).alloc (.cells #[.int .i64 0, .int .i64 0, .int .i64 0, .int .i64 0] 33) = W at *
  obtain ⟨k0, k1, k2, k3, k4, k5, k6, k7, kf, ks⟩ := cells8 x1
  obtain ⟨r0, r1, r2, r3, rf0, rf1, rf2, rf3, rs, rn⟩ := cells4 x2
  obtain ⟨l0, l1, l2, l3, lf0, lf1, lf2, lf3, ls, ln⟩ := cells4 x3
  clear kf
  go_rounds 5
  have hne : w.heap.size + 1 ≠ w.heap.size + 1 + 1 := by omega
  have x4 := at_other (k := 3) (v := .int .i64 m3) (at_other (k := 2) (v := .int .i64 m2) (at_other (k := 1) (v := .int .i64 m1) (at_other (k := 0) (v := .int .i64 m0) x2 hne) hne) hne) hne
  have r := at_set4 (v0 := .int .i64 m0) (v1 := .int .i64 m1) (v2 := .int .i64 m2) (v3 := .int .i64 m3) x4
  obtain ⟨c0, c1, c2, c3, -⟩ := cells4 r
  refine bodyPost_ret (by simp [results, Try.results42, go_sem, c0, c1, c2, c3]; rfl) rfl ?_
  refine ⟨rfl, (((Below.setCell ?_ (by simp) _).setCell (by simp) _).setCell (by simp) _).setCell (by simp) _⟩
  exact (((y1.out.setCell (by simp; omega) _).setCell (by simp; omega) _).setCell (by simp; omega) _).setCell (by simp; omega) _
set_option maxHeartbeats 1000000 in
theorem left_raw (w : World) (p : Value) (s : ByteArray) (fb : Nat) (a b c d e f g h t0 t1 t2 t3 : Int) (hc : Hid (w.heap[fb]? = some (.cells #[.int .i64 a, .int .i64 b, .int .i64 c, .int .i64 d, .int .i64 e, .int .i64 f, .int .i64 g, .int .i64 h] 69 (0, 0)))) (H : Hid (∀ w1, Below w.heap.size w w1 → Calls Try.prog 31 #[p, .string s] w1 fun e w' => e = .returned (.pointer (some ⟨fb, 0, none⟩)) ∧ w' = w1))
    (HA : Hid (∀ w, Calls Try.prog 42 #[.agg #[.int .i64 a, .int .i64 b, .int .i64 c, .int .i64 d, .int .i64 e, .int .i64 f, .int .i64 g, .int .i64 h]] w fun r w' => r = .returned (.agg #[.int .i64 t0, .int .i64 t1, .int .i64 t2, .int .i64 t3]) ∧ Below w.heap.size w w')) : Calls Try.prog 27 #[p, .string s] w fun r w' => r = ansV (⟨t0, t1, t2, t3⟩, 0) ∧ Below w.heap.size w w' := by
  go_enter Try.func27, Try.ntmps27
  go_wp2_with (go_at_call 31; refine (H.out _ ((Below.refl _ w).alloc (Nat.le_refl _) _)).mono ?_)
  rintro _ w1 ⟨rfl, rfl⟩
  have z1 := new0 (w := w) (o := .cells #[.int .i64 0, .int .i64 0, .int .i64 0, .int .i64 0] 33)
  have y1 : Hid (Below w.heap.size w (w.alloc (.cells #[.int .i64 0, .int .i64 0, .int .i64 0, .int .i64 0] 33))) := (Below.refl _ w).alloc (Nat.le_refl _) _
  have x1 := at_alloc (o := .cells #[.int .i64 0, .int .i64 0, .int .i64 0, .int .i64 0] 33) hc.out
  generalize w.alloc (.cells #[.int .i64 0, .int .i64 0, .int .i64 0, .int .i64 0] 33) = W at *
  obtain ⟨k0, k1, k2, k3, k4, k5, k6, k7, kf, ks⟩ := cells8 x1
  clear H hc kf x1
  go_wp2_with (go_at_call 42; refine (HA.out _).mono ?_)
  rintro _ w2 ⟨rfl, b2⟩
  have z2 := at_below b2 (Nat.le_refl _) z1
  have y2 : Hid (Below w.heap.size w w2) := below_from y1.out b2 y1.out.size
  clear z1 y1 b2 k0 k1 k2 k3 k4 k5 k6 k7 ks HA
  obtain ⟨r0, r1, r2, r3, rf0, rf1, rf2, rf3, rs, rn⟩ := cells4 z2
  go_wp2_with fail
  have r := at_set4 (v0 := .int .i64 t0) (v1 := .int .i64 t1) (v2 := .int .i64 t2) (v3 := .int .i64 t3) z2
  obtain ⟨c0, c1, c2, c3, -⟩ := cells4 r
  refine bodyPost_ret (by simp [results, Try.results27, go_sem, c0, c1, c2, c3]; rfl) rfl ?_
  exact ⟨rfl, (((y2.out.setCell (by simp) _).setCell (by simp) _).setCell (by simp) _).setCell (by simp) _⟩
theorem left_any {w : World} {S : Nat → Prop} {pb : Nat} {D : List A} (h : Led w S pb D) (s : ByteArray) (hs : s.size ≤ 281474976710656) :
    Calls Try.prog 27 #[.pointer (some ⟨pb, 0, none⟩), .string s] w fun e w' => e = ansV (leftD D s.data.toList) ∧ Below w.heap.size w w' := by
  obtain ⟨⟨mb, l, h1, rfl, h3⟩, h4⟩ := h
  have hfd : ∀ w1, Below w.heap.size w w1 → Calls Try.prog 31 #[.pointer (some ⟨pb, 0, none⟩), .string s] w1 fun e w' => e = .returned (fptr (fnd Ac.nm s.data.toList l)) ∧ w' = w1 := fun w1 b => find_any (h1.keep fun k hk => b.block k (h1.lt hk)) s hs
  unfold leftD
  rw [fnd_s]
  cases hf : fnd Ac.nm s.data.toList l with
  | none => rw [hf] at hfd; exact left_no w _ s hfd
  | some a =>
    rw [hf] at hfd
    obtain ⟨h5, h6⟩ := h1.ok a (fnd_some hf).1
    have h5 := okV h5
    have h6 := okV h6
    exact left_raw w _ s a.fb _ _ _ _ _ _ _ _ _ _ _ _ (h1.ac a (fnd_some hf).1) hfd (fun w => leftA_any _ _ _ _ _ _ _ _ _ _ _ _ w (wrap_ok (by omega) (by omega)) (wrap_ok (by omega) (by omega)) (wrap_ok (by omega) (by omega)) (wrap_ok (by omega) (by omega)))

/-! ### Close -/
theorem map_block {H : Type} {w : World} {k : TypeId} {R : Value → Option (DataW H × List MemPlace)} {m n : Nat} {D : DataW H} (h : w.ownsMap Try.prog k R m n D) {g : Nat} {cs : Array Value} {t : TypeId} {q : Nat × Nat} (hg : w.heap[g]? = some (.cells cs t q)) : m ≠ g := fun e => by
  obtain ⟨es, clock, hb, _⟩ := h
  rw [e, hg] at hb
  cases hb
theorem cells_ne {w : World} {g g' : Nat} {cs cs' : Array Value} {t t' : TypeId} {q q' : Nat × Nat} (h : w.heap[g]? = some (.cells cs t q)) (h' : w.heap[g']? = some (.cells cs' t' q')) (ht : t ≠ t') : g ≠ g' := fun e => by
  rw [e, h'] at h
  exact ht (by injection h with h; injection h with _ h _; exact h.symm)
theorem mem_drp_len {l : List Ac} {n : List UInt8} : (drp Ac.nm n l).length ≤ l.length := List.length_filter_le ..
set_option maxHeartbeats 1000000 in
theorem close_no (w : World) (p : Value) (s : ByteArray) (H : Hid (Calls Try.prog 31 #[p, .string s] w fun e w' => e = .returned (.pointer none) ∧ w' = w)) : Calls Try.prog 25 #[p, .string s] w fun e w' => e = .returned (.int .i64 3) ∧ w' = w := by
  go_enter Try.func25, Try.ntmps25
  go_wp2_with (go_at_call 31; refine H.out.mono ?_)
  rintro e w1 ⟨rfl, rfl⟩
  go_wp2_with fail
  go_ret
  exact ⟨rfl, rfl⟩
set_option maxHeartbeats 1000000 in
theorem close_used (w : World) (p : Value) (s : ByteArray) (fb : Nat) (a b c d e f g h : Int) (hz : (e == 0 && (f == 0 && (g == 0 && h == 0))) = false) (hc : Hid (w.heap[fb]? = some (.cells #[.int .i64 a, .int .i64 b, .int .i64 c, .int .i64 d, .int .i64 e, .int .i64 f, .int .i64 g, .int .i64 h] 69 (0, 0)))) (H : Hid (Calls Try.prog 31 #[p, .string s] w fun e w' => e = .returned (.pointer (some ⟨fb, 0, none⟩)) ∧ w' = w)) : Calls Try.prog 25 #[p, .string s] w fun e w' => e = .returned (.int .i64 10) ∧ w' = w := by
  have q := eq4 e f g h 0 0 0 0
  rw [hz] at q
  obtain ⟨k0, k1, k2, k3, k4, k5, k6, k7, kf, ks⟩ := cells8 hc.out
  clear kf hz
  go_enter Try.func25, Try.ntmps25
  go_wp2_with (go_at_call 31; refine H.out.mono ?_)
  rintro e w1 ⟨rfl, rfl⟩
  go_wp2_with fail
  go_ret
  exact ⟨rfl, rfl⟩
set_option maxHeartbeats 1000000 in
theorem close_ok (w : World) (pb m n : Nat) (M : DataW Nat) (s : ByteArray) (hs : Hid (s.size ≤ 281474976710656)) (fb : Nat) (a b c d : Int) (hp : Hid (w.heap[pb]? = some (.cells #[.map (some m)] 61 (0, 0)))) (ho : Hid (w.ownsMap Try.prog 9 pE m n M)) (hc : Hid (w.heap[fb]? = some (.cells #[.int .i64 a, .int .i64 b, .int .i64 c, .int .i64 d, .int .i64 0, .int .i64 0, .int .i64 0, .int .i64 0] 69 (0, 0)))) (H : Hid (Calls Try.prog 31 #[.pointer (some ⟨pb, 0, none⟩), .string s] w fun e w' => e = .returned (.pointer (some ⟨fb, 0, none⟩)) ∧ w' = w)) : Calls Try.prog 25 #[.pointer (some ⟨pb, 0, none⟩), .string s] w fun e w' => e = .returned (.int .i64 0) ∧ w'.ownsMap Try.prog 9 pE m n (M.del (.string s.data.toList)) ∧ Kp (· = m) w w' := by
  have q := eq4 0 0 0 0 0 0 0 0
  rw [show ((0 : Int) == 0 && ((0 : Int) == 0 && ((0 : Int) == 0 && (0 : Int) == 0))) = true from rfl] at q
  have hkey : Hid (keyOf Try.prog 9 (.string s) = some (.string s.data.toList)) := keyOf_string_mk (P := Try.prog) Try.underlying9 (by have := hs.out; unfold maxLen; omega)
  obtain ⟨k0, k1, k2, k3, k4, k5, k6, k7, kf, ks⟩ := cells8 hc.out
  have e0 := c1 hp.out
  clear kf
  go_enter Try.func25, Try.ntmps25
  go_wp2_with (go_at_call 31; refine H.out.mono ?_)
  rintro e w1 ⟨rfl, rfl⟩
  go_wp2_with (at_delete; refine wpList_delete_own _ rfl _ _ 59 9 rfl 66 law9 Try.underlying59 pE m n M rfl ho.out _ _ rfl hkey.out ?_)
  intro w3 ho3 ht3
  go_wp2_with fail
  go_ret
  exact ⟨rfl, ho3, Kp.of_grown ht3.grown fun k e => (Option.some.inj e).symm⟩
theorem close_any {w : World} {S : Nat → Prop} {pb : Nat} {D : List A} (h : Led w S pb D) (s : ByteArray) (hs : s.size ≤ 281474976710656) :
    Calls Try.prog 25 #[.pointer (some ⟨pb, 0, none⟩), .string s] w fun e w' => e = .returned (.int .i64 (closeD D s.data.toList).1) ∧ ∃ S', Led w' S' pb (closeD D s.data.toList).2 ∧ Step S S' w w' := by
  have h0 := h
  obtain ⟨⟨mb, l, h1, rfl, h3⟩, h4⟩ := h
  have hfd := find_any h1 s hs
  unfold closeD
  rw [fnd_s]
  cases hf : fnd Ac.nm s.data.toList l with
  | none =>
    rw [hf] at hfd
    refine (close_no w _ s hfd).mono ?_
    rintro e w' ⟨rfl, rfl⟩
    exact ⟨rfl, S, h0, Step.refl _ _⟩
  | some a =>
    rw [hf] at hfd
    have hac := h1.ac a (fnd_some hf).1
    simp only [Option.map_some]
    by_cases hz : a.s.us = V.nil
    · rw [if_pos hz]
      have hz' : a.us = V.nil := hz
      cases mb with
      | none =>
        have hl : l = [] := h1.mp
        rw [hl] at hf
        cases hf
      | some m =>
        rw [hz'] at hac
        refine (close_ok w pb m l.length (mapOf l) s hs a.fb _ _ _ _ h1.cell h1.mp hac hfd).mono ?_
        rintro e w' ⟨rfl, ho, hk⟩
        rw [mapOf_del] at ho
        have ho' := tight ho
        rw [mapOf_size] at ho'
        have hsub : ∀ b ∈ drp Ac.nm s.data.toList l, b ∈ l := fun b hb => (mem_drp.1 hb).1
        refine ⟨rfl, Fp pb (some m) (drp Ac.nm s.data.toList l), ?_, hk.mono fun k _ e => h3 k (.inr (.inl (by rw [show k = m from e]))), fun k hk' => .inl (h3 k ?_)⟩
        · have := (LgAt.led (w := w') (pb := pb) (mb := some m) (l := drp Ac.nm s.data.toList l) ⟨(hk.block pb (h1.lt (.inl rfl)) fun e => map_block h1.mp h1.cell e.symm).trans h1.cell, ho', fun b hb => (hk.block b.fb (h1.lt (.inr (.inr ⟨b, hsub b hb, rfl⟩))) fun e => map_block h1.mp (h1.ac b (hsub b hb)) e.symm).trans (h1.ac b (hsub b hb)), srt_drp h1.srt, fun x hx y hy => h1.inj x (hsub x hx) y (hsub y hy), Nat.le_trans mem_drp_len h1.len, fun b hb => h1.ok b (hsub b hb)⟩)
          rw [map_drp (mn := A.nm) Ac.s_nm] at this
          exact this
        · rcases hk' with e | e | ⟨b, hb, e⟩
          · exact .inl e
          · exact .inr (.inl e)
          · exact .inr (.inr ⟨b, hsub b hb, e⟩)
    · rw [if_neg hz]
      refine (close_used w _ s a.fb _ _ _ _ _ _ _ _ ?_ hac hfd).mono ?_
      · refine Bool.eq_false_iff.2 fun q => hz ?_
        simp only [Bool.and_eq_true, beq_iff_eq] at q
        exact V.ext' q.1 q.2.1 q.2.2.1 q.2.2.2
      rintro e w' ⟨rfl, rfl⟩
      exact ⟨rfl, S, h0, Step.refl _ _⟩
end Go.Proofs.Ytehgcaaeifnjeaa
