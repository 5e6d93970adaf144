/-
  The law of keys that come out in order.
-/
import Derived.Test.YtmcmldlnmmbbgaaPp
namespace Go.Proofs.Ytmcmldlnmmbbgaa
open Go.RowKit Go.Maps

def NoT : Nat → Prop := fun _ => False
/-- behind i pops: the last one's box, and all that is left comes behind it -/
structure SrA (w wr : World) (hb n i wb : Nat) (last : Int) (C : Ct) (k : K) : Prop where
  l : Lw w wr hb C n (n - i) (· = wb)
  x : wr.heap[wb]? = some (.cells #[.int .u64 k.n, .int .u64 k.d, .int .i64 k.t] 49 (0, 0))
  lo : w.heap.size ≤ wb
  ki : k.in
  o : i ≠ 0 → k.d ≠ 0 ∧ ∃ z : Nat, last = z ∧ ∀ (y : Nat) (k' : K), C y = some k' → el k z k' y
def Sr (w wr : World) (hb n i wb : Nat) (last : Int) : Prop := ∃ C k, SrA w wr hb n i wb last C k
def C6 (w : World) (x y : Nat) (a b : K) : Prop := w.cell? ⟨x, 0, none⟩ = some (.int .u64 a.n) ∧ w.cell? ⟨x, 1, none⟩ = some (.int .u64 a.d) ∧ w.cell? ⟨x, 2, none⟩ = some (.int .i64 a.t) ∧ w.cell? ⟨y, 0, none⟩ = some (.int .u64 b.n) ∧ w.cell? ⟨y, 1, none⟩ = some (.int .u64 b.d) ∧ w.cell? ⟨y, 2, none⟩ = some (.int .i64 b.t)
theorem keep6 {w w1 : World} {x y : Nat} {a b : K} (hb : Below w.heap.size w w1) (q : w.cell? ⟨x, 0, none⟩ = some (.int .u64 a.n) ∧ w.cell? ⟨x, 1, none⟩ = some (.int .u64 a.d) ∧ w.cell? ⟨x, 2, none⟩ = some (.int .i64 a.t) ∧ w.cell? ⟨y, 0, none⟩ = some (.int .u64 b.n) ∧ w.cell? ⟨y, 1, none⟩ = some (.int .u64 b.d) ∧ w.cell? ⟨y, 2, none⟩ = some (.int .i64 b.t)) :
    w1.cell? ⟨x, 0, none⟩ = some (.int .u64 a.n) ∧ w1.cell? ⟨x, 1, none⟩ = some (.int .u64 a.d) ∧ w1.cell? ⟨x, 2, none⟩ = some (.int .i64 a.t) ∧ w1.cell? ⟨y, 0, none⟩ = some (.int .u64 b.n) ∧ w1.cell? ⟨y, 1, none⟩ = some (.int .u64 b.d) ∧ w1.cell? ⟨y, 2, none⟩ = some (.int .i64 b.t) := by
  obtain ⟨q0, q1, q2, q3, q4, q5⟩ := q
  exact ⟨keep1c' hb q0, keep1c' hb q1, keep1c' hb q2, keep1c' hb q3, keep1c' hb q4, keep1c' hb q5⟩
/-- how the law's three questions come out -/
structure Qs (i x : Nat) (last cmp : Int) : Prop where
  q : (¬ (0 : Int) < (i : Int)) ∨ ((0 : Int) < (i : Int) ∧ ¬ (0 : Int) < cmp ∧ (cmp == 0) = false) ∨ ((0 : Int) < (i : Int) ∧ cmp = 0 ∧ ¬ (x : Int) ≤ last)
theorem SrA.qs {w wr : World} {hb n i wb : Nat} {last : Int} {C : Ct} {k k' : K} {x : Nat} (h : SrA w wr hb n i wb last C k) (hm : C.min x k') (hk : k'.ok) : Qs i x last (rc k k') := by
  refine ⟨?_⟩
  by_cases hi : i = 0
  · left; omega
  · right
    obtain ⟨hd, z, rfl, hz⟩ := h.o hi
    have he := hz x k' hm.1
    rw [rc_kc hd hk.z]
    rcases he with h1 | ⟨h1, h2⟩
    · left
      have := kc_lt.2 h1
      exact ⟨by omega, by omega, by simp; omega⟩
    · right
      exact ⟨by omega, kc_zero.2 h1, by omega⟩
theorem SrA.next {w wr w' : World} {hb n i wb : Nat} {last : Int} {C : Ct} {k k' : K} {x : Nat} (h : SrA w wr hb n i wb last C k) (hm : C.min x k') (hk : k'.ok) (hl : Lw w w' hb (C.del x) n (n - (i + 1)) (· = wb)) (hx : w'.heap[wb]? = some (.cells #[.int .u64 k'.n, .int .u64 k'.d, .int .i64 k'.t] 49 (0, 0))) : Sr w w' hb n (i + 1) wb x :=
  ⟨C.del x, k', ⟨hl, hx, h.lo, ⟨hk.n, hk.d⟩, fun _ => ⟨hk.z, x, rfl, fun y k'' q => by
    unfold Ct.del at q
    split at q
    · cases q
    · rename_i hne
      rcases hm.2 y k'' q with e | e
      · exact absurd (by rw [e]) hne
      · exact e⟩⟩⟩
set_option maxHeartbeats 8000000 in
set_option maxRecDepth 100000 in
theorem sorts_law (q : Option Addr) (m c : Nat) (ks : List K) (w : World) (hl : Hid (ks.length = m)) (hK : Hid (Kys w q ks)) :
    Calls Try.prog 4 #[.slice q m c] w fun e w' => e = .returned (.bool true) ∧ Below w.heap.size w w' := by
  have H8 : Hid (∀ w, Calls Try.prog 8 #[] w fun e w' => e = .returned (.bool true) ∧ Below w.heap.size w w') := fun w => awake_any w
  go_enter Try.func4, Try.ntmps4
  go_wp2_with (go_at_call 8; refine (H8.out _).mono ?_)
  rintro e w1 ⟨rfl, b1⟩
  have y1 : Hid (Below w.heap.size w w1) := b1
  clear b1
  by_cases hbig : (1000 : Int) < (m : Int)
  · go_wp2_with (go_at_call 8; refine (H8.out _).mono ?_)
    rintro e w3 ⟨rfl, b3⟩
    go_wp2_with fail
    go_ret
    exact ⟨rfl, below_from y1.out b3 y1.out.size⟩
  have hm10 : (m : Int) ≤ 1000 := by omega
  clear hbig
  have H9 : Hid (Calls Try.prog 9 #[] w1 fun e w' => e = .returned (.pointer (some ⟨w1.heap.size, 0, none⟩)) ∧ Lw w w' w1.heap.size Ct.nil 0 0 (fun _ => False)) := lw_new y1.out
  go_wp2_with (go_at_call 9; refine H9.out.mono ?_)
  rintro e w2 ⟨rfl, h2⟩
  generalize w1.heap.size = hb at *
  have L2 : Hid (Lw w w2 hb Ct.nil 0 0 NoT) := h2
  clear h2 H9 y1 H8
  go_wp2_with fail
  go_loopw [4, 5] (fun nv iv wr => ∃ (n i : Nat) (C : Ct), n ≤ i ∧ i ≤ m ∧ nv = .int .i64 n ∧ iv = .int .i64 i ∧ Lw w wr hb C n n NoT) (fun _ iv _ => m - (intOf iv).toNat)
  case atStart => exact ⟨0, 0, Ct.nil, Nat.le_refl _, Nat.zero_le _, rfl, rfl, L2.out⟩
  case round =>
    obtain ⟨n, i, C, hni, him, rfl, rfl, hL⟩ := hrel
    have L3 : Hid (Lw w wr hb C n n NoT) := hL
    clear hL L2
    by_cases hi : i < m
    · have hi' : (i : Int) < (m : Int) := by omega
      obtain ⟨k, g, f, hk0, rfl, hin, z0, z1, z2⟩ := hK.out.at (k := i) (by have := hl.out; omega)
      have x0 := keep1c' L3.out.below z0
      have x1 := keep1c' L3.out.below z1
      have x2 := keep1c' L3.out.below z2
      have Z1 : Hid (w.cell? ⟨g, f + i * 3 + 1, none⟩ = some (.int .u64 k.d)) := z1
      clear hk0 z0 z1 z2
      by_cases hd : k.d = 0
      · have H14 : Hid (Calls Try.prog 14 #[.pointer (some ⟨hb, 0, none⟩), .agg #[.int .u64 k.n, .int .u64 k.d, .int .i64 k.t]] wr fun e w' => e = .returned (.tuple #[.int .i64 0, .int .i64 4]) ∧ Hid (Below wr.heap.size wr w')) := by rw [hd]; exact insert_form hb k.n k.t wr
        have hd' : ¬ (0 : Int) < (k.d : Int) := by omega
        clear hin hd
        go_wp2_with (go_at_call 14; refine H14.out.mono ?_)
        first | rintro e w4 rfl b4 | rintro e w4 ⟨rfl, b4⟩
        have x1' := keep1c' b4.out x1
        go_wp2_with fail
        exact ⟨⟨n, i + 1, C, by omega, by omega, rfl, by go_num, L3.out.keep b4.out⟩, by simp [intOf]; omega⟩
      · have hok : k.ok := ⟨hin.n, hin.d, hd⟩
        have H14 : Hid (Calls Try.prog 14 #[.pointer (some ⟨hb, 0, none⟩), .agg #[.int .u64 k.n, .int .u64 k.d, .int .i64 k.t]] wr fun e w' => e = .returned (.tuple #[.int .i64 n, .int .i64 0]) ∧ Hid (Lw w w' hb (C.put n k) (n + 1) (n + 1) NoT)) := by
          refine (lw_insert L3.out k hok (by omega) (by omega)).mono ?_
          rintro e w' ⟨rfl, h1, _⟩
          exact ⟨rfl, h1⟩
        have hd' : (0 : Int) < (k.d : Int) := by omega
        clear hin hok hd
        go_wp2_with (go_at_call 14; refine H14.out.mono ?_)
        first | rintro e w4 rfl L4 | rintro e w4 ⟨rfl, L4⟩
        have x1' := keep1c' L4.out.below Z1.out
        go_wp2_with fail
        exact ⟨⟨n + 1, i + 1, C.put n k, by omega, by omega, by go_num, by go_num, L4.out⟩, by simp [intOf]; omega⟩
    · have hi' : ¬ (i : Int) < (m : Int) := by omega
      have hn1 : n ≤ 1000 := by omega
      clear hi
      have S0 : Hid (Sr w (wr.alloc (.cells #[.int .u64 0, .int .u64 0, .int .i64 0] 49)) hb n 0 wr.heap.size (-1)) := ⟨C, ⟨0, 0, 0⟩, ⟨by rw [Nat.sub_zero]; exact (L3.out.box _).less fun k hk => .inr hk, new0, L3.out.below.size, ⟨by decide, by decide⟩, fun q => absurd rfl q⟩⟩
      clear L3
      go_wp2_with fail
      generalize wr.alloc (.cells #[.int .u64 0, .int .u64 0, .int .i64 0] 49) = W3 at *
      generalize wr.heap.size = wb at *
      go_loopw [8, 10] (fun lv iv wr => ∃ (i : Nat) (last : Int), i ≤ n ∧ lv = .int .i64 last ∧ iv = .int .i64 i ∧ Sr w wr hb n i wb last) (fun _ iv _ => n - (intOf iv).toNat)
      case atStart => exact ⟨0, -1, Nat.zero_le _, rfl, rfl, S0.out⟩
      case round =>
        obtain ⟨i, last, hin, rfl, rfl, C2, k2, hS⟩ := hrel
        have S1 : Hid (SrA w wr hb n i wb last C2 k2) := hS
        clear hS S0
        by_cases hi : i < n
        · have hi2 : (i : Int) < (n : Int) := by omega
          obtain ⟨x, k, hmin, hok, hpop⟩ := lw_pop S1.out.l (by omega) (by omega)
          have H15 : Hid (Calls Try.prog 15 #[.pointer (some ⟨hb, 0, none⟩)] wr fun e w' => e = .returned (.tuple #[.int .i64 x, .agg #[.int .u64 k.n, .int .u64 k.d, .int .i64 k.t], .int .i64 0]) ∧ Hid (Lw w w' hb (C2.del x) n (n - (i + 1)) (· = wb) ∧ w'.heap[wb]? = some (.cells #[.int .u64 k2.n, .int .u64 k2.d, .int .i64 k2.t] 49 (0, 0)))) := by
            refine hpop.mono ?_
            rintro e w' ⟨rfl, h1, h2⟩
            exact ⟨rfl, by rw [show n - (i + 1) = n - i - 1 by omega]; exact h1, (h2 wb rfl).trans S1.out.x⟩
          have HM : Hid (C2.min x k ∧ k.ok) := ⟨hmin, hok⟩
          clear hpop hmin hok
          go_upto_region 19 with (go_at_call 15; refine H15.out.mono ?_; first | rintro e w4 rfl H4 | rintro e w4 ⟨rfl, H4⟩)
          have L5 : Hid (Lw w (w4.alloc (.cells #[.int .u64 k.n, .int .u64 k.d, .int .i64 k.t] 37)) hb (C2.del x) n (n - (i + 1)) (fun k => k = wb ∨ k = w4.heap.size)) := H4.out.1.box _
          have X5 : Hid ((w4.alloc (.cells #[.int .u64 k.n, .int .u64 k.d, .int .i64 k.t] 37)).heap[wb]? = some (.cells #[.int .u64 k2.n, .int .u64 k2.d, .int .i64 k2.t] 49 (0, 0))) := at_alloc H4.out.2
          have Y5 : Hid ((w4.alloc (.cells #[.int .u64 k.n, .int .u64 k.d, .int .i64 k.t] 37)).heap[w4.heap.size]? = some (.cells #[.int .u64 k.n, .int .u64 k.d, .int .i64 k.t] 37 (0, 0))) := new0
          generalize w4.alloc (.cells #[.int .u64 k.n, .int .u64 k.d, .int .i64 k.t] 37) = W5 at *
          generalize w4.heap.size = bx at *
          have hc6 : C6 W5 wb bx k2 k := by
            obtain ⟨a0, a1, a2⟩ := c3 X5.out
            obtain ⟨b0, b1, b2⟩ := c3 Y5.out
            exact ⟨a0, a1, a2, b0, b1, b2⟩
          have H17 : Hid (∀ w, Calls Try.prog 17 #[.agg #[.int .u64 k.n, .int .u64 k.d, .int .i64 k.t]] w fun e w' => e = .returned (.agg #[.int .u64 k.n, .int .u64 k.d, .int .i64 k.t]) ∧ Below w.heap.size w w') := plain_any k.n k.d k.t
          have H16 : Hid (∀ w, Calls Try.prog 16 #[.agg #[.int .u64 k2.n, .int .u64 k2.d, .int .i64 k2.t], .agg #[.int .u64 k.n, .int .u64 k.d, .int .i64 k.t]] w fun e w' => e = .returned (.int .i64 (rc k2 k)) ∧ Below w.heap.size w w') := fun w => rcompare_any k2 k w S1.out.ki.n S1.out.ki.d HM.out.2.n HM.out.2.d
          have HQ : Hid (Qs i x last (rc k2 k)) := S1.out.qs HM.out.1 HM.out.2
          generalize rc k2 k = cmp at *
          unfold C6 at hc6
          clear H4 H15
          go_region_held3 (fun w' : World => w'.cell? ⟨wb, 0, none⟩ = some (.int .u64 k2.n) ∧ w'.cell? ⟨wb, 1, none⟩ = some (.int .u64 k2.d) ∧ w'.cell? ⟨wb, 2, none⟩ = some (.int .i64 k2.t) ∧ w'.cell? ⟨bx, 0, none⟩ = some (.int .u64 k.n) ∧ w'.cell? ⟨bx, 1, none⟩ = some (.int .u64 k.d) ∧ w'.cell? ⟨bx, 2, none⟩ = some (.int .i64 k.t)) (repeat' (first | (with_reducible assumption) | (with_reducible refine keep6 b1 ?_) | (with_reducible refine keep6 b2 ?_) | (with_reducible refine keep1c' b1 ?_) | (with_reducible refine keep1c' b2 ?_) | go_keep)) (first | (go_at_call 17; refine (H17.out _).mono ?_; rintro e w5 ⟨rfl, b1⟩; have y5 := below_from (B := W5.heap.size) (w := W5) (by go_grown) b1 (by simp)) | (go_at_call 16; refine (H16.out _).mono ?_; rintro e w6 ⟨rfl, b2⟩; have y6 := below_from (B := W5.heap.size) (w := W5) (by first | exact y5 | go_grown) b2 (by first | exact y5.size | simp)))
          have B6 : Hid (Below W5.heap.size W5 w6) := y6
          have X6 : Hid (w6.heap[wb]? = some (.cells #[.int .u64 k2.n, .int .u64 k2.d, .int .i64 k2.t] 49 (0, 0))) := at_below y6 (Nat.le_refl _) X5.out
          have Y6 : Hid (w6.heap[bx]? = some (.cells #[.int .u64 k.n, .int .u64 k.d, .int .i64 k.t] 37 (0, 0))) := at_below y6 (Nat.le_refl _) Y5.out
          have L6 : Hid (Lw w w6 hb (C2.del x) n (n - (i + 1)) (fun k => k = wb ∨ k = bx)) := L5.out.keep y6
          obtain ⟨b0, b1', b2'⟩ := c3 Y6.out
          have hlen : ((n - (i + 1) : Nat) : Int) = (n : Int) - 1 - (i : Int) := by omega
          have H11 : Hid (Calls Try.prog 11 #[.pointer (some ⟨hb, 0, none⟩)] w6 fun e w' => e = .returned (.int .i64 ((n : Int) - 1 - (i : Int))) ∧ w' = w6) := by
            have := lw_len L6.out
            rw [hlen] at this
            exact this
          have HN : Hid (∀ w7, Below w6.heap.size w6 w7 → Sr w (((w7.setCell ⟨wb, 0, none⟩ (.int .u64 k.n)).setCell ⟨wb, 1, none⟩ (.int .u64 k.d)).setCell ⟨wb, 2, none⟩ (.int .i64 k.t)) hb n (i + 1) wb x) := fun w7 b7 => by
            have l7 := (L6.out.keep b7).less (T' := (· = wb)) fun k hk => .inl hk
            have x7 := at_below b7 (Nat.le_refl _) X6.out
            have hlo := S1.out.lo
            exact S1.out.next HM.out.1 HM.out.2 (((l7.set ⟨wb, 0, none⟩ _ rfl hlo).set ⟨wb, 1, none⟩ _ rfl hlo).set ⟨wb, 2, none⟩ _ rfl hlo) (set3 x7)
          have HX : Hid (∀ w7, Below w6.heap.size w6 w7 → w7.heap[wb]? = some (.cells #[.int .u64 k2.n, .int .u64 k2.d, .int .i64 k2.t] 49 (0, 0))) := fun w7 b7 => at_below b7 (Nat.le_refl _) X6.out
          clear y6 y5 b1 b2 hc6 B6 X5 Y5 L5 H16 hlen L6 X6 Y6 S1 HM
          obtain ⟨HQ'⟩ := HQ.out
          clear HQ
          rcases HQ' with q1 | ⟨q1, q2, q3⟩ | ⟨q1, q2, q3⟩
          · go_upto_region 22 with (go_at_call 11; refine H11.out.mono ?_; rintro e w8 ⟨rfl, rfl⟩)
            go_wp2_with (go_at_call 17; refine (H17.out _).mono ?_; rintro e w9 ⟨rfl, b9⟩; have R9 : Hid _ := HN.out w9 b9; obtain ⟨p0, p1, p2⟩ := c3 (HX.out w9 b9); obtain ⟨f0, f1, f2⟩ := f3 (HX.out w9 b9); clear HN HX)
            exact ⟨⟨i + 1, x, by omega, rfl, by go_num, R9.out⟩, by simp [intOf]; omega⟩
          · go_upto_region 22 with (go_at_call 11; refine H11.out.mono ?_; rintro e w8 ⟨rfl, rfl⟩)
            go_wp2_with (go_at_call 17; refine (H17.out _).mono ?_; rintro e w9 ⟨rfl, b9⟩; have R9 : Hid _ := HN.out w9 b9; obtain ⟨p0, p1, p2⟩ := c3 (HX.out w9 b9); obtain ⟨f0, f1, f2⟩ := f3 (HX.out w9 b9); clear HN HX)
            exact ⟨⟨i + 1, x, by omega, rfl, by go_num, R9.out⟩, by simp [intOf]; omega⟩
          · subst q2
            go_upto_region 22 with (go_at_call 11; refine H11.out.mono ?_; rintro e w8 ⟨rfl, rfl⟩)
            go_wp2_with (go_at_call 17; refine (H17.out _).mono ?_; rintro e w9 ⟨rfl, b9⟩; have R9 : Hid _ := HN.out w9 b9; obtain ⟨p0, p1, p2⟩ := c3 (HX.out w9 b9); obtain ⟨f0, f1, f2⟩ := f3 (HX.out w9 b9); clear HN HX)
            exact ⟨⟨i + 1, x, by omega, rfl, by go_num, R9.out⟩, by simp [intOf]; omega⟩
        · have hi2 : ¬ (i : Int) < (n : Int) := by omega
          have H15 : Hid (Calls Try.prog 15 #[.pointer (some ⟨hb, 0, none⟩)] wr fun e w' => e = .returned (.tuple #[.int .i64 0, .agg #[.int .u64 0, .int .u64 0, .int .i64 0], .int .i64 3]) ∧ Hid (Below w.heap.size w w')) := by
            have h0 := S1.out.l
            rw [show n - i = 0 by omega] at h0
            refine (lw_pop0 h0).mono ?_
            rintro e w' ⟨rfl, b⟩
            exact ⟨rfl, h0.below.trans (b.mono h0.below.size)⟩
          clear S1
          go_wp2_with (go_at_call 15; refine H15.out.mono ?_)
          first | rintro e w4 rfl B4 | rintro e w4 ⟨rfl, B4⟩
          go_wp2_with fail
          go_ret
          exact ⟨rfl, B4.out.alloc B4.out.size _⟩
end Go.Proofs.Ytmcmldlnmmbbgaa
