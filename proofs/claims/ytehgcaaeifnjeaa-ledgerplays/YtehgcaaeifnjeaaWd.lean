/-
  The ledger's function Open.
-/
import Derived.Test.YtehgcaaeifnjeaaWc
namespace Go.Proofs.Ytehgcaaeifnjeaa
open Go.RowKit Go.Maps Go.WideMaps

theorem upd_ins {n : List UInt8} {x y : Ac} (hx : x.nm = n) (hy : y.nm = n) : ∀ {l : List Ac}, (∀ z ∈ l, z.nm ≠ n) → upd Ac.nm n x (ins Ac.nm y l) = ins Ac.nm x l
  | [], _ => by simp [ins, upd, hy]
  | z :: r, h => by
    have hz : z.nm ≠ n := h z (List.mem_cons_self ..)
    have hr : ∀ w ∈ r, w.nm ≠ n := fun w hw => h w (List.mem_cons_of_mem _ hw)
    have hu : upd Ac.nm n x r = r := by
      unfold upd
      refine (List.map_congr_left fun w hw => ?_).trans (List.map_id _)
      simp [hr w hw]
    unfold ins
    rw [hx, hy]
    split
    · unfold upd at *
      simp only [beq_iff_eq] at hu
      simp [hy, hz, hu]
    · have := upd_ins hx hy hr
      unfold upd at *
      simp only [beq_iff_eq] at this
      simp [hz, this]
theorem fnd_ins {n : List UInt8} {x : Ac} (hx : x.nm = n) : ∀ {l : List Ac}, (∀ z ∈ l, z.nm ≠ n) → fnd Ac.nm n (ins Ac.nm x l) = some x
  | [], _ => by simp [ins, fnd, hx]
  | z :: r, h => by
    have hz : z.nm ≠ n := h z (List.mem_cons_self ..)
    have := fnd_ins hx fun w hw => h w (List.mem_cons_of_mem _ hw)
    unfold ins
    split
    · simp [fnd, hx]
    · unfold fnd at *
      simp [hz, this]
/-- an account that is written anew -/
theorem LgAt.written {w w' : World} {pb : Nat} {mb : Option Nat} {l : List Ac} {n : List UInt8} {a : Ac} {v u : V} (h : LgAt w pb mb l) (hf : fnd Ac.nm n l = some a) (hc : w'.heap[a.fb]? = some (.cells (c8 v u) 69 (0, 0))) (hk : ∀ k, k < w.heap.size → k ≠ a.fb → w'.heap[k]? = w.heap[k]?) (hv : v.ok = true) (hu : u.ok = true) : LgAt w' pb mb (upd Ac.nm n ⟨n, v, u, a.fb⟩ l) := by
  obtain ⟨ha, hn⟩ := fnd_some hf
  have hac := h.ac a ha
  have hmap : mapOf (upd Ac.nm n ⟨n, v, u, a.fb⟩ l) = mapOf l := by
    unfold mapOf
    congr 1
    refine upd_self (g := fun f : Ac => (Lit.string f.nm, DataW.held f.fb)) h.srt hf ?_
    simp [hn]
  refine ⟨(hk pb (h.lt (.inl rfl)) fun e => cells_ne h.cell hac (by decide) e).trans h.cell, ?_, fun b hb => ?_, srt_upd rfl h.srt, fun x hx y hy e => ?_, by rw [upd_length]; exact h.len, fun b hb => ?_⟩
  · have hm := h.mp
    unfold MpAt at *
    cases mb with
    | none =>
      simp only at hm
      subst hm
      cases hf
    | some m =>
      simp only at hm ⊢
      rw [hmap, upd_length]
      exact keepMap hm (hk m hm.lt fun e => map_block hm hac e)
  · rcases mem_upd hb with rfl | ⟨hb, hbn⟩
    · exact hc
    · exact (hk b.fb (h.lt (.inr (.inr ⟨b, hb, rfl⟩))) fun e => hbn ((h.inj b hb a ha e).trans hn)).trans (h.ac b hb)
  · rcases mem_upd hx with rfl | ⟨hx, hxn⟩ <;> rcases mem_upd hy with rfl | ⟨hy, hyn⟩
    · rfl
    · exact absurd ((h.inj y hy a ha e.symm).trans hn) hyn
    · exact absurd ((h.inj x hx a ha e).trans hn) hxn
    · exact h.inj x hx y hy e
  · rcases mem_upd hb with rfl | ⟨hb, _⟩
    · exact ⟨hv, hu⟩
    · exact h.ok b hb
theorem fp_upd {pb : Nat} {mb : Option Nat} {l : List Ac} {n : List UInt8} {x a : Ac} (ha : a ∈ l) (hx : x.fb = a.fb) {k : Nat} (h : Fp pb mb (upd Ac.nm n x l) k) : Fp pb mb l k := by
  rcases h with e | e | ⟨b, hb, e⟩
  · exact .inl e
  · exact .inr (.inl e)
  · rcases mem_upd hb with rfl | ⟨hb, _⟩
    · exact .inr (.inr ⟨a, ha, by rw [← hx, e]⟩)
    · exact .inr (.inr ⟨b, hb, e⟩)

set_option maxHeartbeats 1000000 in
theorem open_form (a b c d : Int) (w : World) (p : Addr) (s : ByteArray) (hf : fm a b c d = false) :
    Calls Try.prog 18 #[.pointer (some p), .string s, .agg #[.int .i64 a, .int .i64 b, .int .i64 c, .int .i64 d]] w fun e w' => e = .returned (.int .i64 4) ∧ Below w.heap.size w w' := by
  have HC : Hid (∀ (w : World), Calls Try.prog 35 #[.agg #[.int .i64 a, .int .i64 b, .int .i64 c, .int .i64 d]] w fun e w' => e = .returned (.bool false) ∧ Below w.heap.size w w') := fun w => by have := formed_any a b c d w; rwa [hf] at this
  clear hf
  go_enter Try.func18, Try.ntmps18
  go_wp2_with (go_at_call 35; refine (HC.out _).mono ?_)
  rintro e w1 ⟨rfl, b1⟩
  go_wp2_with fail
  go_ret
  exact ⟨rfl, below_from ((Below.refl _ w).alloc (Nat.le_refl _) _) b1 (by simp)⟩
/-- four cells of a block written -/
theorem at_set8 {W : World} {g : Nat} {x0 x1 x2 x3 y0 y1 y2 y3 v0 v1 v2 v3 : Value} {ty : TypeId} (h : W.heap[g]? = some (.cells #[x0, x1, x2, x3, y0, y1, y2, y3] ty (0, 0))) : ((((W.setCell ⟨g, 0, none⟩ v0).setCell ⟨g, 1, none⟩ v1).setCell ⟨g, 2, none⟩ v2).setCell ⟨g, 3, none⟩ v3).heap[g]? = some (.cells #[v0, v1, v2, v3, y0, y1, y2, y3] ty (0, 0)) :=
  setB (setB (setB (setB h v0) v1) v2) v3
theorem set4_other {W : World} {g k i0 i1 i2 i3 : Nat} {v0 v1 v2 v3 : Value} (h : k ≠ g) : ((((W.setCell ⟨g, i0, none⟩ v0).setCell ⟨g, i1, none⟩ v1).setCell ⟨g, i2, none⟩ v2).setCell ⟨g, i3, none⟩ v3).heap[k]? = W.heap[k]? :=
  (Below.heap_setCell _ _ _ _ h).trans ((Below.heap_setCell _ _ _ _ h).trans ((Below.heap_setCell _ _ _ _ h).trans (Below.heap_setCell _ _ _ _ h)))
/-- what Open leaves: one account's limit -/
structure Opd (w w' : World) (fb : Nat) (a b c d : Int) : Prop where
  c : ∀ e f g h : Value, ∀ x0 x1 x2 x3 : Value, w.heap[fb]? = some (.cells #[x0, x1, x2, x3, e, f, g, h] 69 (0, 0)) → w'.heap[fb]? = some (.cells #[.int .i64 a, .int .i64 b, .int .i64 c, .int .i64 d, e, f, g, h] 69 (0, 0))
  k : Kp (· = fb) w w'
theorem Opd.mk4 {w W : World} (hW : Kp (fun _ => False) w W) (fb : Nat) (a b c d : Int) : Opd w ((((W.setCell ⟨fb, 0, none⟩ (.int .i64 a)).setCell ⟨fb, 1, none⟩ (.int .i64 b)).setCell ⟨fb, 2, none⟩ (.int .i64 c)).setCell ⟨fb, 3, none⟩ (.int .i64 d)) fb a b c d :=
  ⟨fun e f g h x0 x1 x2 x3 hh => at_set8 ((hW.block fb (Array.getElem?_eq_some_iff.1 hh).1 (fun q => q)).trans hh), hW.os, hW.tape, hW.output, by simp [World.setCell]; exact hW.size, fun k hk hn => (set4_other hn).trans (hW.block k hk fun q => q)⟩

set_option maxHeartbeats 1000000 in
theorem open_set (a b c d : Int) (w : World) (pb fb : Nat) (x0 x1 x2 x3 y0 y1 y2 y3 : Value) (s : ByteArray) (hf : fm a b c d = true) (hc : Hid (w.heap[fb]? = some (.cells #[x0, x1, x2, x3, y0, y1, y2, y3] 69 (0, 0)))) (H : Hid (∀ w1, Below w.heap.size w w1 → Calls Try.prog 31 #[.pointer (some ⟨pb, 0, none⟩), .string s] w1 fun e w' => e = .returned (.pointer (some ⟨fb, 0, none⟩)) ∧ w' = w1)) :
    Calls Try.prog 18 #[.pointer (some ⟨pb, 0, none⟩), .string s, .agg #[.int .i64 a, .int .i64 b, .int .i64 c, .int .i64 d]] w fun e w' => e = .returned (.int .i64 0) ∧ Hid (Opd w w' fb a b c d) := by
  have HC : Hid (∀ (w : World), Calls Try.prog 35 #[.agg #[.int .i64 a, .int .i64 b, .int .i64 c, .int .i64 d]] w fun e w' => e = .returned (.bool true) ∧ Below w.heap.size w w') := fun w => by have := formed_any a b c d w; rwa [hf] at this
  clear hf
  go_enter Try.func18, Try.ntmps18
  go_wp2_with (go_at_call 35; refine (HC.out _).mono ?_)
  rintro e w1 ⟨rfl, b1⟩
  have B1 : Hid (Below w.heap.size w w1) := below_from ((Below.refl _ w).alloc (Nat.le_refl _) _) b1 (by simp)
  have x1 := at_below b1 (Nat.le_refl _) (new0 (w := w) (o := .cells #[.int .i64 a, .int .i64 b, .int .i64 c, .int .i64 d] 33))
  have x2 := at_below B1.out (Nat.le_refl _) hc.out
  have H31 : Hid (Calls Try.prog 31 #[.pointer (some ⟨pb, 0, none⟩), .string s] w1 fun e w' => e = .returned (.pointer (some ⟨fb, 0, none⟩)) ∧ w' = w1) := H.out w1 B1.out
  obtain ⟨r0, r1, r2, r3, rf0, rf1, rf2, rf3, rs, rn⟩ := cells4 x1
  obtain ⟨k0, k1, k2, k3, k4, k5, k6, k7, ⟨kf0, kf1, kf2, kf3, -⟩, ks⟩ := cells8 x2
  have hW : Hid (Opd w ((((w1.setCell ⟨fb, 0, none⟩ (.int .i64 a)).setCell ⟨fb, 1, none⟩ (.int .i64 b)).setCell ⟨fb, 2, none⟩ (.int .i64 c)).setCell ⟨fb, 3, none⟩ (.int .i64 d)) fb a b c d) := Opd.mk4 (Kp.of_below B1.out) fb a b c d
  have hne : fb ≠ w.heap.size := cells_ne x2 x1 (by decide)
  clear H HC b1 B1 x1 x2 hc k4 k5 k6 k7
  go_wp2_with (go_at_call 31; refine H31.out.mono ?_)
  rintro e w2 ⟨rfl, rfl⟩
  go_wp2_with fail
  go_ret
  exact ⟨rfl, hW.out⟩
set_option maxHeartbeats 1000000 in
theorem open_full (a b c d : Int) (w : World) (pb : Nat) (mb : Option Nat) (n : Nat) (s : ByteArray) (hf : fm a b c d = true) (hn : Hid (64 ≤ n ∧ n ≤ 64)) (hp : Hid (w.heap[pb]? = some (.cells #[.map mb] 61 (0, 0)))) (HL : Hid (∀ w1 ty, Below w.heap.size w w1 → (Builtin.len_ #[59] ty #[.map mb]).run Try.prog w1 = .ok (.int .i64 n) w1)) (H : Hid (∀ w1, Below w.heap.size w w1 → Calls Try.prog 31 #[.pointer (some ⟨pb, 0, none⟩), .string s] w1 fun e w' => e = .returned (.pointer none) ∧ w' = w1)) :
    Calls Try.prog 18 #[.pointer (some ⟨pb, 0, none⟩), .string s, .agg #[.int .i64 a, .int .i64 b, .int .i64 c, .int .i64 d]] w fun e w' => e = .returned (.int .i64 6) ∧ Below w.heap.size w w' := by
  have HC : Hid (∀ (w : World), Calls Try.prog 35 #[.agg #[.int .i64 a, .int .i64 b, .int .i64 c, .int .i64 d]] w fun e w' => e = .returned (.bool true) ∧ Below w.heap.size w w') := fun w => by have := formed_any a b c d w; rwa [hf] at this
  clear hf
  obtain rfl : n = 64 := by have := hn.out; omega
  go_enter Try.func18, Try.ntmps18
  go_wp2_with (go_at_call 35; refine (HC.out _).mono ?_)
  rintro e w1 ⟨rfl, b1⟩
  have B1 : Hid (Below w.heap.size w w1) := below_from ((Below.refl _ w).alloc (Nat.le_refl _) _) b1 (by simp)
  have e0 := c1 (at_below B1.out (Nat.le_refl _) hp.out)
  have H31 : Hid (Calls Try.prog 31 #[.pointer (some ⟨pb, 0, none⟩), .string s] w1 fun e w' => e = .returned (.pointer none) ∧ w' = w1) := H.out w1 B1.out
  have hl := fun ty => HL.out w1 ty B1.out
  clear H HC b1 hp HL
  go_wp2_with (go_at_call 31; refine H31.out.mono ?_)
  rintro e w2 ⟨rfl, rfl⟩
  go_wp2_with fail
  go_ret
  exact ⟨rfl, B1.out⟩
set_option maxHeartbeats 1000000 in
theorem open_add (a b c d : Int) (w : World) (pb : Nat) (mb : Option Nat) (n : Nat) (s : ByteArray) (hf : fm a b c d = true) (hn : Hid (n < 64)) (hp : Hid (w.heap[pb]? = some (.cells #[.map mb] 61 (0, 0)))) (HL : Hid (∀ w1 ty, Below w.heap.size w w1 → (Builtin.len_ #[59] ty #[.map mb]).run Try.prog w1 = .ok (.int .i64 n) w1)) (H : Hid (∀ w1, Below w.heap.size w w1 → Calls Try.prog 31 #[.pointer (some ⟨pb, 0, none⟩), .string s] w1 fun e w' => e = .returned (.pointer none) ∧ w' = w1))
    (Q : World → World → Nat → Prop) (HA : Hid (∀ w1, Below w.heap.size w w1 → Calls Try.prog 36 #[.pointer (some ⟨pb, 0, none⟩), .string s] w1 fun e w' => ∃ fb, e = .returned (.pointer (some ⟨fb, 0, none⟩)) ∧ Hid (Q w1 w' fb ∧ w'.heap[fb]? = some z8 ∧ ∃ S, Kp S w1 w' ∧ ∀ k, S k → ∀ x y z u, w1.heap[k]? ≠ some (.cells #[x, y, z, u] 33 (0, 0))))) :
    Calls Try.prog 18 #[.pointer (some ⟨pb, 0, none⟩), .string s, .agg #[.int .i64 a, .int .i64 b, .int .i64 c, .int .i64 d]] w fun e w' => e = .returned (.int .i64 0) ∧ Hid (∃ w1 w2 fb, Below w.heap.size w w1 ∧ Q w1 w2 fb ∧ Opd w2 w' fb a b c d) := by
  have HC : Hid (∀ (w : World), Calls Try.prog 35 #[.agg #[.int .i64 a, .int .i64 b, .int .i64 c, .int .i64 d]] w fun e w' => e = .returned (.bool true) ∧ Below w.heap.size w w') := fun w => by have := formed_any a b c d w; rwa [hf] at this
  clear hf
  have hn64 : decide ((64 : Int) ≤ (n : Int)) = false := decide_eq_false (by have := hn.out; omega)
  go_enter Try.func18, Try.ntmps18
  go_wp2_with (go_at_call 35; refine (HC.out _).mono ?_)
  rintro e w1 ⟨rfl, b1⟩
  have B1 : Hid (Below w.heap.size w w1) := below_from ((Below.refl _ w).alloc (Nat.le_refl _) _) b1 (by simp)
  have X1 : Hid (w1.heap[w.heap.size]? = some (.cells #[.int .i64 a, .int .i64 b, .int .i64 c, .int .i64 d] 33)) := at_below b1 (Nat.le_refl _) (new0 (w := w) (o := .cells #[.int .i64 a, .int .i64 b, .int .i64 c, .int .i64 d] 33))
  have e0 := c1 (at_below B1.out (Nat.le_refl _) hp.out)
  have H31 : Hid (Calls Try.prog 31 #[.pointer (some ⟨pb, 0, none⟩), .string s] w1 fun e w' => e = .returned (.pointer none) ∧ w' = w1) := H.out w1 B1.out
  have H36 := HA.out w1 B1.out
  have H36 : Hid (Calls Try.prog 36 #[.pointer (some ⟨pb, 0, none⟩), .string s] w1 fun e w' => ∃ fb, e = .returned (.pointer (some ⟨fb, 0, none⟩)) ∧ Hid (Q w1 w' fb ∧ w'.heap[fb]? = some z8 ∧ ∃ S, Kp S w1 w' ∧ ∀ k, S k → ∀ x y z u, w1.heap[k]? ≠ some (.cells #[x, y, z, u] 33 (0, 0)))) := H36
  have hl := fun ty => HL.out w1 ty B1.out
  clear H HC b1 hp HL HA
  go_wp2_with (go_at_call 31; refine H31.out.mono ?_)
  rintro e w2 ⟨rfl, rfl⟩
  go_wp2_with (go_at_call 36; refine H36.out.mono ?_)
  rintro e w3 ⟨fb, rfl, HQ⟩
  have x1 : w3.heap[w.heap.size]? = some (.cells #[.int .i64 a, .int .i64 b, .int .i64 c, .int .i64 d] 33) := by
    obtain ⟨-, -, S, hk, hS⟩ := HQ.out
    exact (hk.block _ (Array.getElem?_eq_some_iff.1 X1.out).1 fun q => hS _ q _ _ _ _ X1.out).trans X1.out
  have x2 := HQ.out.2.1
  unfold z8 at x2
  obtain ⟨r0, r1, r2, r3, rf0, rf1, rf2, rf3, rs, rn⟩ := cells4 x1
  obtain ⟨k0, k1, k2, k3, k4, k5, k6, k7, ⟨kf0, kf1, kf2, kf3, -⟩, ks⟩ := cells8 x2
  have hW : Hid (Opd w3 ((((w3.setCell ⟨fb, 0, none⟩ (.int .i64 a)).setCell ⟨fb, 1, none⟩ (.int .i64 b)).setCell ⟨fb, 2, none⟩ (.int .i64 c)).setCell ⟨fb, 3, none⟩ (.int .i64 d)) fb a b c d) := Opd.mk4 (Kp.refl _ _) fb a b c d
  have hne : fb ≠ w.heap.size := cells_ne x2 x1 (by decide)
  clear x1 x2 k4 k5 k6 k7 H31 H36 e0 hl X1
  go_wp2_with fail
  go_ret
  exact ⟨rfl, _, _, _, B1.out, HQ.out.1, hW.out⟩
theorem len_at {w : World} {mb : Option Nat} {l : List Ac} (h : MpAt w mb l) (ty : TypeId) : (Builtin.len_ #[59] ty #[.map mb]).run Try.prog w = .ok (.int .i64 l.length) w := by
  unfold MpAt at h
  cases mb with
  | none =>
    simp only at h
    subst h
    simp [Builtin.len_, run_underlying Try.underlying59, goInt, Result.andThen]
  | some m =>
    have := World.ownsMap.len h Try.underlying59 ty
    rwa [mapOf_size] at this
theorem upd_s {l : List Ac} {n : List UInt8} {v u : V} {fb : Nat} : (upd Ac.nm n ⟨n, v, u, fb⟩ l).map Ac.s = upd A.nm n ⟨n, v, u⟩ (l.map Ac.s) := map_upd (f := Ac.s) (mn := A.nm) Ac.s_nm n _ l
theorem open_any {w : World} {S : Nat → Prop} {pb : Nat} {D : List A} (h : Led w S pb D) (s : ByteArray) (hs : s.size ≤ 281474976710656) (v : V) :
    Calls Try.prog 18 #[.pointer (some ⟨pb, 0, none⟩), .string s, .agg #[.int .i64 v.a, .int .i64 v.b, .int .i64 v.c, .int .i64 v.d]] w fun e w' => e = .returned (.int .i64 (openD D s.data.toList v).1) ∧ ∃ S', Led w' S' pb (openD D s.data.toList v).2 ∧ Step S S' w w' := by
  have h0 := h
  obtain ⟨⟨mb, l, h1, rfl, h3⟩, h4⟩ := h
  have hkeep : ∀ w1, Below w.heap.size w w1 → LgAt w1 pb mb l := fun w1 b => h1.keep fun k hk => b.block k (h1.lt hk)
  have hfd : ∀ w1, Below w.heap.size w w1 → Calls Try.prog 31 #[.pointer (some ⟨pb, 0, none⟩), .string s] w1 fun e w' => e = .returned (fptr (fnd Ac.nm s.data.toList l)) ∧ w' = w1 := fun w1 b => find_any (hkeep w1 b) s hs
  unfold openD
  by_cases hv : v.ok = true
  · rw [if_pos hv, fnd_s]
    cases hf : fnd Ac.nm s.data.toList l with
    | none =>
      rw [hf] at hfd
      simp only [Option.map_none, List.length_map]
      have HL : ∀ w1 ty, Below w.heap.size w w1 → (Builtin.len_ #[59] ty #[.map mb]).run Try.prog w1 = .ok (.int .i64 l.length) w1 := fun w1 ty b => len_at (hkeep w1 b).mp ty
      by_cases hl : 64 ≤ l.length
      · rw [if_pos hl]
        refine (open_full _ _ _ _ w pb mb l.length s hv ⟨hl, h1.len⟩ h1.cell HL hfd).mono ?_
        rintro e w' ⟨rfl, b⟩
        exact ⟨rfl, S, h0.keepB b, Step.of_below S b⟩
      · rw [if_neg hl]
        refine (open_add _ _ _ _ w pb mb l.length s hv (show l.length < 64 by omega) h1.cell HL hfd (fun w1 w2 fb => ∃ m', Add w1 w2 pb mb l s.data.toList fb m') fun w1 b => (addA_any (hkeep w1 b) s hs hf (by omega)).mono ?_).mono ?_
        · rintro e w' ⟨fb, rfl, m', hA⟩
          refine ⟨fb, rfl, ⟨m', hA⟩, ?_, Fp pb mb l, hA.k, fun k hk x y z u q => ?_⟩
          · exact hA.g.ac ⟨s.data.toList, V.nil, V.nil, fb⟩ (mem_ins.2 (.inl rfl))
          · rcases hk with e | e | ⟨a, ha, e⟩
            · subst e
              exact cells_ne q (hkeep w1 b).cell (by decide) rfl
            · have hm := (hkeep w1 b).mp
              rw [e] at hm
              exact map_block hm q rfl
            · subst e
              exact cells_ne q ((hkeep w1 b).ac a ha) (by decide) rfl
        · rintro e w' ⟨rfl, w1, w2, fb, hb, ⟨m', hA⟩, hO⟩
          have hn := fnd_none hf
          have hfi : fnd Ac.nm s.data.toList (ins Ac.nm ⟨s.data.toList, V.nil, V.nil, fb⟩ l) = some ⟨s.data.toList, V.nil, V.nil, fb⟩ := fnd_ins (n := s.data.toList) (x := ⟨s.data.toList, V.nil, V.nil, fb⟩) rfl hn
          have hG := hA.g.written (w' := w') (v := v) (u := V.nil) hfi (hO.c _ _ _ _ _ _ _ _ (hA.g.ac _ (fnd_some hfi).1)) (fun k hk hne => hO.k.block k hk hne) hv nil_ok
          have e1 : upd Ac.nm s.data.toList ⟨s.data.toList, v, V.nil, fb⟩ (ins Ac.nm ⟨s.data.toList, V.nil, V.nil, fb⟩ l) = ins Ac.nm ⟨s.data.toList, v, V.nil, fb⟩ l := upd_ins (n := s.data.toList) (x := ⟨s.data.toList, v, V.nil, fb⟩) (y := ⟨s.data.toList, V.nil, V.nil, fb⟩) rfl rfl hn
          rw [e1] at hG
          have e2 : (ins Ac.nm ⟨s.data.toList, v, V.nil, fb⟩ l).map Ac.s = ins A.nm ⟨s.data.toList, v, V.nil⟩ (l.map Ac.s) := map_ins (f := Ac.s) (mn := A.nm) Ac.s_nm ⟨s.data.toList, v, V.nil, fb⟩ l
          have hk1 : Kp (Fp pb mb l) w w2 := (Kp.of_below hb).trans hA.k fun _ _ e => e
          have hfb : w.heap.size ≤ fb := Nat.le_trans hb.size hA.f
          have hk2 : Kp (Fp pb mb l) w w' := hk1.trans hO.k fun k hk e => absurd (show k = fb from e) (by omega)
          refine ⟨rfl, Fp pb (some m') (ins Ac.nm ⟨s.data.toList, v, V.nil, fb⟩ l), ?_, hk2.mono fun k _ e => h3 k e, fun k hk => ?_⟩
          · rw [← e2]
            exact hG.led
          · rcases hk with e | e | ⟨a, ha, e⟩
            · exact .inl (h3 k (.inl e))
            · rcases hA.m with q | q
              · exact .inl (h3 k (.inr (.inl (by rw [q]; exact e))))
              · have : m' = k := Option.some.inj e
                exact .inr (by have := hb.size; omega)
            · rcases mem_ins.1 ha with rfl | ha
              · exact .inr (by rw [← e]; exact hfb)
              · exact .inl (h3 k (.inr (.inr ⟨a, ha, e⟩)))
    | some a =>
      rw [hf] at hfd
      obtain ⟨ha, hn⟩ := fnd_some hf
      refine (open_set _ _ _ _ w pb a.fb _ _ _ _ _ _ _ _ s hv (h1.ac a ha) hfd).mono ?_
      rintro e w' ⟨rfl, hO⟩
      have hG := h1.written (w' := w') (v := v) (u := a.us) hf (hO.out.c _ _ _ _ _ _ _ _ (h1.ac a ha)) (fun k hk hne => hO.out.k.block k hk hne) hv (h1.ok a ha).2
      refine ⟨rfl, Fp pb mb (upd Ac.nm s.data.toList ⟨s.data.toList, v, a.us, a.fb⟩ l), ?_, hO.out.k.mono fun k _ e => h3 k (.inr (.inr ⟨a, ha, (show k = a.fb from e).symm⟩)), fun k hk => .inl (h3 k (fp_upd (x := ⟨s.data.toList, v, a.us, a.fb⟩) ha rfl hk))⟩
      have := hG.led
      rw [upd_s] at this
      exact this
  · rw [if_neg hv]
    refine (open_form _ _ _ _ w ⟨pb, 0, none⟩ s (Bool.eq_false_iff.2 hv)).mono ?_
    rintro e w' ⟨rfl, b⟩
    exact ⟨rfl, S, h0.keepB b, Step.of_below S b⟩
end Go.Proofs.Ytehgcaaeifnjeaa
