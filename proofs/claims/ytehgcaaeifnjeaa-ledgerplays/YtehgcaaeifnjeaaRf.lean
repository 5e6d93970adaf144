/-
  The document's ledger: Close.
-/
import Derived.Test.YtehgcaaeifnjeaaRe
namespace Go.Proofs.Ytehgcaaeifnjeaa
open Go.RowKit Go.Maps

section
variable {α : Type} {f : α → List Value} {sz : Nat}
theorem rowT {w : World} {g o : Nat} {l : List α} (h : RowV w g o (l.flatMap f)) (k : Nat) : RowV w g o ((l.take k).flatMap f) := fun j u hu => by
  refine h j u ?_
  have : l.flatMap f = (l.take k).flatMap f ++ (l.drop k).flatMap f := by rw [← List.flatMap_append, List.take_append_drop]
  rw [this, List.getElem?_append_left (List.getElem?_eq_some_iff.1 hu).1]
  exact hu
theorem rowD (hf : ∀ a, (f a).length = sz) {w : World} {g o : Nat} {l : List α} (h : RowV w g o (l.flatMap f)) (k : Nat) (hk : k ≤ l.length) : RowV w g (o + k * sz) ((l.drop k).flatMap f) := fun j u hu => by
  rw [Nat.add_assoc]
  refine h (k * sz + j) u ?_
  have : l.flatMap f = (l.take k).flatMap f ++ (l.drop k).flatMap f := by rw [← List.flatMap_append, List.take_append_drop]
  rw [this, List.getElem?_append_right (by rw [flat_length hf, List.length_take, Nat.min_eq_left hk]; omega), flat_length hf, List.length_take, Nat.min_eq_left hk, show k * sz + j - k * sz = j by omega]
  exact hu
end
theorem RowV.keep {w w1 : World} {g o : Nat} {xs : List Value} (h : RowV w g o xs) (b : Below w.heap.size w w1) : RowV w1 g o xs := fun k x hk => cell_below (h k x hk) b
theorem AR.rowV {w : World} {g n c : Nat} {L : List A} (h : AR w (.slice (Option.some ⟨g, 0, none⟩) n c) L) : RowV w g 0 (L.flatMap aC) := fun j u hu => by
  have := World.ownsRow.cells h (g := g) rfl j u hu
  rwa [Addr.add_lit] at this
theorem AR.cap {w : World} {g n c : Nat} {L : List A} (h : AR w (.slice (Option.some ⟨g, 0, none⟩) n c) L) : n ≤ c ∧ c ≤ maxLen := by
  rcases h.2 with ⟨e, _⟩ | ⟨g', cap, cur, e, hb, hgg, h1, h2, h3, h4⟩
  · cases e
  · cases e
    exact ⟨by have := h.len; omega, h2⟩
theorem drp_at {α : Type} {nm : α → List UInt8} : ∀ {l : List α} {k : Nat} {f : α}, Srt nm l → l[k]? = some f → drp nm (nm f) l = l.take k ++ l.drop (k + 1)
  | [], _, _, _, h => by simp at h
  | y :: r, 0, f, hs, h => by
    obtain rfl : y = f := by simpa using h
    have h1 := List.pairwise_cons.1 hs
    unfold drp
    rw [List.filter_cons_of_neg (by simp)]
    simp only [List.take_zero, List.nil_append, List.drop_succ_cons, List.drop_zero]
    refine List.filter_eq_self.2 fun z hz => ?_
    have hne : (nm z == nm y) = false := by
      refine beq_false_of_ne fun e => ?_
      have := h1.1 z hz
      rw [e, WideAt.bytes_irrefl] at this
      cases this
    simp [hne]
  | y :: r, k + 1, f, hs, h => by
    have h1 := List.pairwise_cons.1 hs
    have hr : r[k]? = some f := by simpa using h
    have hne : (nm y == nm f) = false := by
      refine beq_false_of_ne fun e => ?_
      have := h1.1 f (List.mem_of_getElem? hr)
      rw [e, WideAt.bytes_irrefl] at this
      cases this
    have ih := drp_at h1.2 hr
    unfold drp at ih ⊢
    rw [List.filter_cons_of_pos (by simp [hne]), ih]
    simp
set_option maxHeartbeats 1000000 in
theorem rclose_no (w : World) (p : Value) (s : List UInt8) (H : Hid (Calls Try.prog 32 #[p, .string ⟨⟨s⟩⟩] w fun e w' => e = .returned (.int .i64 (-1)) ∧ w' = w)) : Calls Try.prog 26 #[p, .string ⟨⟨s⟩⟩] w fun e w' => e = .returned (.int .i64 3) ∧ w' = w := by
  go_enter Try.func26, Try.ntmps26
  go_wp2_with (go_at_call 32; refine H.out.mono ?_)
  rintro e w1 ⟨rfl, rfl⟩
  go_wp2_with fail
  go_ret
  exact ⟨rfl, rfl⟩
set_option maxHeartbeats 1000000 in
theorem rclose_used (w : World) (rb g n c k : Nat) (s : List UInt8) (e0 e1 e2 e3 : Int) (hk : k < n) (hz : (e0 == 0 && (e1 == 0 && (e2 == 0 && e3 == 0))) = false) (hc : Hid (w.heap[rb]? = some (.cells #[.slice (some ⟨g, 0, none⟩) n c] 30 (0, 0)))) (hd : Hid (w.cell? ⟨g, k * 9 + 5, none⟩ = some (.int .i64 e0) ∧ w.cell? ⟨g, k * 9 + 5 + 1, none⟩ = some (.int .i64 e1) ∧ w.cell? ⟨g, k * 9 + 5 + 2, none⟩ = some (.int .i64 e2) ∧ w.cell? ⟨g, k * 9 + 5 + 3, none⟩ = some (.int .i64 e3)))
    (H : Hid (Calls Try.prog 32 #[.pointer (some ⟨rb, 0, none⟩), .string ⟨⟨s⟩⟩] w fun e w' => e = .returned (.int .i64 k) ∧ w' = w)) : Calls Try.prog 26 #[.pointer (some ⟨rb, 0, none⟩), .string ⟨⟨s⟩⟩] w fun e w' => e = .returned (.int .i64 10) ∧ w' = w := by
  have q := eq4 e0 e1 e2 e3 0 0 0 0
  rw [hz] at q
  have hki : (k : Int) < (n : Int) := by omega
  have hk0 : ¬ (k : Int) < 0 := by omega
  have z0 := c1 hc.out
  obtain ⟨l0, l1, l2, l3⟩ := hd.out
  clear hz hc hd
  go_enter Try.func26, Try.ntmps26
  go_wp2_with (go_at_call 32; refine H.out.mono ?_)
  go_ret
  exact ⟨rfl, rfl⟩
theorem at_blk {w w1 : World} {g B : Nat} {o : Obj} (h : w.heap[g]? = some o) (b : Below B w w1) (hB : g < B) : w1.heap[g]? = some o := (b.block g hB).trans h
/-- behind Close -/
structure ClR (w : World) (rb k : Nat) (D : List A) (w' : World) : Prop where
  ex : ∃ p n c, w'.heap[rb]? = some (.cells #[.slice p n c] 30 (0, 0)) ∧ GRow 65 9 aC w.heap.size w' (.slice p n c) (D.take k ++ D.drop (k + 1))
  kp : Kp (· = rb) w w'
theorem clR {w w4 : World} {rb k : Nat} {D : List A} {p : Option Addr} {n c : Nat} {u : Value} (o : GRow 65 9 aC w.heap.size w4 (.slice p n c) (D.take k ++ D.drop (k + 1))) (bl : Below w.heap.size w w4) (hp : w4.heap[rb]? = some (.cells #[u] 30 (0, 0))) (hb : rb < w.heap.size) : ClR w rb k D (w4.setCell ⟨rb, 0, none⟩ (.slice p n c)) := by
  refine ⟨⟨p, n, c, setB hp _, o.keep fun g hg => ?_⟩, ?_⟩
  · have := o.ge hg
    exact Below.heap_setCell _ _ _ _ (by simp only [ne_eq]; omega)
  · refine ⟨bl.os, bl.tape, bl.output, ?_, fun j hj hn => ?_⟩
    · have := bl.size
      simpa [World.setCell] using this
    · exact (Below.heap_setCell _ _ _ _ hn).trans (bl.block j hj)
set_option maxHeartbeats 2000000 in
set_option maxRecDepth 100000 in
theorem rclose_ok (w : World) (rb g n c k : Nat) (D : List A) (s : List UInt8) (hk : k < n) (hn : n ≤ 64) (hc : n ≤ c) (hl : Hid (D.length = n)) (h : Hid (w.heap[rb]? = some (.cells #[.slice (some ⟨g, 0, none⟩) n c] 30 (0, 0)))) (hr : Hid (RowV w g 0 (D.flatMap aC))) (hd : Hid (w.cell? ⟨g, k * 9 + 5, none⟩ = some (.int .i64 0) ∧ w.cell? ⟨g, k * 9 + 5 + 1, none⟩ = some (.int .i64 0) ∧ w.cell? ⟨g, k * 9 + 5 + 2, none⟩ = some (.int .i64 0) ∧ w.cell? ⟨g, k * 9 + 5 + 3, none⟩ = some (.int .i64 0)))
    (H : Hid (Calls Try.prog 32 #[.pointer (some ⟨rb, 0, none⟩), .string ⟨⟨s⟩⟩] w fun e w' => e = .returned (.int .i64 k) ∧ w' = w)) : Calls Try.prog 26 #[.pointer (some ⟨rb, 0, none⟩), .string ⟨⟨s⟩⟩] w fun e w' => e = .returned (.int .i64 0) ∧ Hid (ClR w rb k D w') := by
  have q := eq4 0 0 0 0 0 0 0 0
  rw [show ((0 : Int) == 0 && ((0 : Int) == 0 && ((0 : Int) == 0 && (0 : Int) == 0))) = true from rfl] at q
  have hki : (k : Int) < (n : Int) := by omega
  have hk0 : ¬ (k : Int) < 0 := by omega
  have hrb : rb < w.heap.size := (Array.getElem?_eq_some_iff.1 h.out).1
  have z0 := c1 h.out
  obtain ⟨l0, l1, l2, l3⟩ := hd.out
  clear hd
  go_enter Try.func26, Try.ntmps26
  go_upto_region 7 with (go_at_call 32; refine H.out.mono ?_)
  clear H
  go_wp2_with (at_builtin; refine append_g (α := A) aC_len aC_one Try.underlying28 info65 rfl (by decide) (wr := w) (B := w.heap.size) rfl _ _ rfl none 0 0 [] rfl (GRow.nil _ _ _ _ _) (Nat.le_refl _) g 0 k c (D.take k) rfl (by rw [List.length_take, hl.out]; omega) (rowT hr.out k) (by unfold maxLen; omega) (by omega) ?_)
  intro p3 c3 w3 h1 h2
  have P3 : Hid (w3.heap[rb]? = some (.cells #[.slice (some ⟨g, 0, none⟩) n c] 30 (0, 0))) := at_below h2 (Nat.le_refl _) h.out
  have B3 : Hid (Below w.heap.size w w3) := h2
  have O3 : Hid (GRow 65 9 aC w.heap.size w3 (.slice p3 k c3) (D.take k)) := h1
  have R3 : Hid (RowV w3 g 0 (D.flatMap aC)) := hr.out.keep h2
  have d0 := c1 P3.out
  clear h1 h2 z0 l0 l1 l2 l3 q
  have hk1 : (k : Int) + 1 ≤ (n : Int) := by omega
  have hk2 : (n : Int) ≤ (c : Int) := by omega
  obtain ⟨o2, ho2, hr2⟩ : ∃ o2, (if c = k + 1 then some (⟨g, 0, none⟩ : Addr) else some ⟨g, (k + 1) * 9, none⟩) = some ⟨g, o2, none⟩ ∧ RowV w3 g o2 ((D.drop (k + 1)).flatMap aC) := by
    by_cases e : c = k + 1
    · refine ⟨0, by rw [if_pos e], ?_⟩
      rw [List.drop_of_length_le (by have := hl.out; omega)]
      intro j u hu
      simp at hu
    · refine ⟨(k + 1) * 9, by rw [if_neg e], ?_⟩
      have := rowD aC_len R3.out (k + 1) (by have := hl.out; omega)
      rwa [Nat.zero_add] at this
  have HX : Hid (Value.slice (if c = k + 1 then some (⟨g, 0, none⟩ : Addr) else some ⟨g, (k + 1) * 9, none⟩) (n - (k + 1)) (c - (k + 1)) = .slice (some ⟨g, o2, none⟩) (n - (k + 1)) (c - (k + 1))) := congrArg (fun q => Value.slice q (n - (k + 1)) (c - (k + 1))) ho2
  have R4 : Hid (RowV w3 g o2 ((D.drop (k + 1)).flatMap aC)) := hr2
  clear ho2 hr2
  go_wp2_with (at_builtin; refine append_g (α := A) aC_len aC_one Try.underlying28 info65 rfl (by decide) (wr := w3) (B := w.heap.size) rfl _ _ rfl p3 k c3 (D.take k) rfl O3.out B3.out.size g o2 (n - (k + 1)) (c - (k + 1)) (D.drop (k + 1)) HX.out (by rw [List.length_drop, hl.out]) R4.out (by unfold maxLen; omega) (by omega) ?_)
  all_goals (
    intro p4 c4 w4 h1 h2
    have P4 := at_blk P3.out h2 hrb
    have B4 : Hid (Below w.heap.size w w4) := B3.out.trans h2
    have HC : Hid (ClR w rb k D (w4.setCell ⟨rb, 0, none⟩ (.slice p4 (k + (n - (k + 1))) c4))) := clR h1 B4.out P4 hrb
    have d0 := c1 P4
    have ff := fz P4 0
    clear h1 h2 P4 B4
    go_wp2_with fail
    go_ret
    exact ⟨rfl, HC⟩)
theorem V.nil_iff (u : V) : (u.a == 0 && (u.b == 0 && (u.c == 0 && u.d == 0))) = false ↔ u ≠ V.nil := by
  obtain ⟨a, b, c, d⟩ := u
  simp [V.nil]
theorem rclose_any {w : World} {T : Nat → Prop} {rb : Nat} {D : List A} (h : Ref w T rb D) (s : List UInt8) :
    Calls Try.prog 26 #[.pointer (some ⟨rb, 0, none⟩), .string ⟨⟨s⟩⟩] w fun e w' => e = .returned (.int .i64 (closeD D s).1) ∧ Hid (∃ T', Ref w' T' rb (closeD D s).2 ∧ Step T T' w w') := by
  have h0 := h
  obtain ⟨⟨q, n, c, h1, hT⟩, hlt⟩ := h
  unfold closeD
  cases hf : fnd A.nm s D with
  | none =>
    refine (rclose_no w _ s (rfind_no h1 hf)).mono ?_
    rintro e w' ⟨rfl, rfl⟩
    exact ⟨rfl, T, h0, Step.refl _ _⟩
  | some a =>
    obtain ⟨k, hk⟩ := fnd_place hf
    obtain ⟨g, rfl⟩ := h1.row.some hk
    have hs := (fnd_some hf).2
    have hkn : k < n := by have := (List.getElem?_eq_some_iff.1 hk).1; have := h1.n; omega
    obtain ⟨-, -, -, -, -, u0, u1, u2, u3⟩ := h1.row.cells hk
    by_cases hu : a.us = V.nil
    · simp only [if_pos hu]
      rw [hu] at u0 u1 u2 u3
      have hc := h1.row.cap.1
      refine (rclose_ok w rb g n c k D s hkn (by have := h1.n; have := h1.len; omega) hc h1.n.symm h1.cell h1.row.rowV ⟨u0, u1, u2, u3⟩ (rfind_yes h1 hk hs)).mono ?_
      rintro e w' ⟨rfl, hC⟩
      obtain ⟨⟨p, n', c', hp, ho⟩, hkp⟩ := hC.out
      have hdr := drp_at h1.srt hk
      rw [hs] at hdr
      have hrow : AR w' (.slice p n' c') (drp A.nm s D) := by
        rw [hdr]
        refine ⟨ho.1, ?_⟩
        rcases ho.2 with hn | ⟨g, cap, cur, e, hb, rest⟩
        · exact .inl hn
        · exact .inr ⟨g, cap, cur, e, Nat.zero_le _, rest⟩
      have hdl : (drp A.nm s D).length ≤ D.length := List.length_filter_le ..
      refine ⟨rfl, fun j => j = rb ∨ (Value.slice p n' c').ownBlock = some j, ⟨⟨p, n', c', ⟨hp, hrow, srt_drp h1.srt, by have := h1.len; omega, fun b hb => h1.ok b (mem_drp.1 hb).1⟩, fun _ hj => hj⟩, fun j hj => ?_⟩, hkp.mono fun j _ e => hT j (.inl e), fun j hj => ?_⟩
      · rcases hj with rfl | hj
        · exact (Array.getElem?_eq_some_iff.1 hp).1
        · exact hrow.lt hj
      · rcases hj with rfl | hj
        · exact .inl (hT _ (.inl rfl))
        · exact .inr (ho.ge hj)
    · simp only [if_neg hu]
      refine (rclose_used w rb g n c k s a.us.a a.us.b a.us.c a.us.d hkn ((V.nil_iff a.us).2 hu) h1.cell ⟨u0, u1, u2, u3⟩ (rfind_yes h1 hk hs)).mono ?_
      rintro e w' ⟨rfl, rfl⟩
      exact ⟨rfl, T, h0, Step.refl _ _⟩
end Go.Proofs.Ytehgcaaeifnjeaa
