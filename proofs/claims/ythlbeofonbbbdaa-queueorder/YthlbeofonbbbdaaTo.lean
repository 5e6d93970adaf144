/-
  Top.
-/
import Derived.Test.YthlbeofonbbbdaaTn
namespace Go.Proofs.Ythlbeofonbbbdaa
open Go.RowKit Go.Maps Go.WideMaps

/-- a head's priority -/
def hdP (D : List J) (t : List UInt8) : Int := (headD D t).1.pr
/-- the best of some heads -/
def IsM (D : List J) (T : List (List UInt8)) (m : Int) : Prop := 0 ≤ m ∧ (∀ t ∈ T, hdP D t ≤ m) ∧ (m = 0 ∨ ∃ t ∈ T, hdP D t = m)
/-- the best of all -/
def IsBest (D : List J) (m : Int) : Prop := 0 ≤ m ∧ (∀ a ∈ D, a.pr ≤ m) ∧ (m = 0 ∨ ∃ a ∈ D, a.pr = m)
def tops (D : List J) (T : List (List UInt8)) (m : Int) : List (List UInt8) := T.filter fun t => decide (hdP D t = m)
theorem IsBest.one {D : List J} {m m' : Int} (h : IsBest D m) (h' : IsBest D m') : m = m' := by
  obtain ⟨a1, a2, a3⟩ := h
  obtain ⟨b1, b2, b3⟩ := h'
  rcases a3 with a3 | ⟨a, ha, a3⟩ <;> rcases b3 with b3 | ⟨b, hb, b3⟩
  · omega
  · have := a2 b hb; omega
  · have := b2 a ha; omega
  · have := a2 b hb; have := b2 a ha; omega
theorem top_of {D : List J} (hs : SJ D) {t : List UInt8} (ht : t ∈ tens D) : ∃ a ∈ D, a.tn = t ∧ headD D t = (a, 0) ∧ ∀ b ∈ D, b.tn = t → b.pr ≤ a.pr := by
  obtain ⟨b, hb, rfl⟩ := mem_tens.1 ht
  have hb' : b ∈ ofT b.tn D := List.mem_filter.2 ⟨hb, by simp⟩
  cases ho : ofT b.tn D with
  | nil => rw [ho] at hb'; cases hb'
  | cons a r =>
    have ha : a ∈ ofT b.tn D := by rw [ho]; exact List.mem_cons_self ..
    obtain ⟨ha1, ha2⟩ := List.mem_filter.1 ha
    have ha3 : a.tn = b.tn := by simpa using ha2
    refine ⟨a, ha1, ha3, by unfold headD; rw [ho]; rfl, fun c hc hct => ?_⟩
    have hc' : c ∈ ofT b.tn D := List.mem_filter.2 ⟨hc, by simp [hct]⟩
    rw [ho] at hc'
    rcases List.mem_cons.1 hc' with rfl | hc''
    · exact Int.le_refl _
    · have hp : SJ (ofT b.tn D) := List.Pairwise.filter _ hs
      rw [ho] at hp
      have := (List.pairwise_cons.1 hp).1 c hc''
      unfold bf at this
      rw [if_pos (ha3.trans hct.symm)] at this
      unfold jl at this
      simp only [Bool.or_eq_true, decide_eq_true_eq, Bool.and_eq_true] at this
      omega
theorem IsM.best {D : List J} (hs : SJ D) {m : Int} (h : IsM D (tens D) m) : IsBest D m := by
  obtain ⟨h1, h2, h3⟩ := h
  refine ⟨h1, fun a ha => ?_, h3.imp id fun ⟨t, ht, e⟩ => ?_⟩
  · have ht : a.tn ∈ tens D := mem_tens.2 ⟨a, ha, rfl⟩
    obtain ⟨b, hb, e1, e2, e3⟩ := top_of hs ht
    have q1 := h2 _ ht
    unfold hdP at q1
    rw [e2] at q1
    have q2 : b.pr ≤ m := q1
    have q3 := e3 a ha rfl
    omega
  · obtain ⟨b, hb, e1, e2, e3⟩ := top_of hs ht
    unfold hdP at e
    rw [e2] at e
    exact ⟨b, hb, e⟩
theorem IsM.up {D : List J} {T : List (List UInt8)} {m : Int} {t : List UInt8} (h : IsM D T m) (hg : m < hdP D t) : IsM D (T ++ [t]) (hdP D t) ∧ tops D (T ++ [t]) (hdP D t) = [t] := by
  obtain ⟨h1, h2, h3⟩ := h
  refine ⟨⟨by omega, fun u hu => ?_, .inr ⟨t, by simp, rfl⟩⟩, ?_⟩
  · rcases List.mem_append.1 hu with q | q
    · have := h2 u q; omega
    · rw [List.mem_singleton.1 q]; exact Int.le_refl _
  · unfold tops
    rw [List.filter_append, List.filter_eq_nil_iff.2 fun u hu => by have := h2 u hu; simp; omega]
    simp
theorem IsM.on {D : List J} {T : List (List UInt8)} {m : Int} {t : List UInt8} (h : IsM D T m) (hg : hdP D t ≤ m) : IsM D (T ++ [t]) m ∧ tops D (T ++ [t]) m = tops D T m ++ (if hdP D t = m then [t] else []) := by
  obtain ⟨h1, h2, h3⟩ := h
  refine ⟨⟨h1, fun u hu => ?_, h3.imp id fun ⟨u, hu, e⟩ => ⟨u, List.mem_append_left _ hu, e⟩⟩, ?_⟩
  · rcases List.mem_append.1 hu with q | q
    · exact h2 u q
    · rw [List.mem_singleton.1 q]; exact hg
  · unfold tops
    rw [List.filter_append]
    by_cases e : hdP D t = m <;> simp [e]
theorem info9 : (Try.prog.info? 9).map (fun i => (i.zero, i.size, i.bytes)) = some (some (.string ⟨#[]⟩), 1, 16) := by kernel_rfl
set_option maxHeartbeats 4000000 in
set_option maxRecDepth 100000 in
theorem top_raw (w : World) (pb n : Nat) (D : List J) (T : List (List UInt8)) (hT : T = tens D) (hs : Hid (SJ D)) (hn : T.length = n) (hn1 : n ≤ 1000) (H13 : Hid (Calls Try.prog 13 #[.pointer (some ⟨pb, 0, none⟩)] w fun e w' => ∃ p c', e = .returned (.slice p n c') ∧ Hid (SR w.heap.size w' (.slice p n c') T ∧ Below w.heap.size w w')))
    (H15 : Hid (∀ W t, t ∈ T → Below w.heap.size w W → Calls Try.prog 15 #[.pointer (some ⟨pb, 0, none⟩), .string ⟨⟨t⟩⟩] W fun e w' => e = ansJ (headD D t) ∧ Below W.heap.size W w')) :
    Calls Try.prog 17 #[.pointer (some ⟨pb, 0, none⟩)] w fun e w' => ∃ m p l c, e = .returned (.tuple #[.int .i64 m, .slice p l c]) ∧ Hid (IsBest D m ∧ SR w.heap.size w' (.slice p l c) (tops D T m) ∧ Below w.heap.size w w') := by
  have HT : Hid (T = tens D ∧ T.length = n) := ⟨hT, hn⟩
  clear hT hn
  go_enter Try.func17, Try.ntmps17
  go_upto_region 4 with (go_at_call 13; refine H13.out.mono ?_; rintro e W1 ⟨p0, c0, rfl, h1⟩)
  clear H13
  go_loopw [4, 5, 13] (fun y v x wr => ∃ (k l : Nat) (m : Int) (p : Option Addr) (c : Nat), y = .int .i64 m ∧ v = .slice p l c ∧ x = .int .i64 k ∧ k ≤ n ∧ l ≤ k ∧ Hid (IsM D (T.take k) m ∧ SR W1.heap.size wr (.slice p l c) (tops D (T.take k) m) ∧ Below W1.heap.size W1 wr)) (fun _ _ x _ => n - (intOf x).toNat)
  case atStart => exact ⟨0, 0, 0, none, 0, rfl, rfl, rfl, Nat.zero_le _, Nat.le_refl _, ⟨Int.le_refl _, (fun _ h => by simp at h), .inl rfl⟩, GRow.nil _ _ _ _ _, Below.refl _ _⟩
  case round =>
    obtain ⟨k, l, m, p, c, rfl, rfl, rfl, hk, hlk, HI⟩ := hrel
    by_cases hkn : k < n
    · obtain ⟨t, ht⟩ : ∃ t, T[k]? = some t := ⟨_, List.getElem?_eq_getElem (by have := HT.out.2; omega)⟩
      have htm : t ∈ T := List.mem_of_getElem? ht
      obtain ⟨a, ha, e1, e2, -⟩ := top_of hs.out (by rw [← HT.out.1]; exact htm)
      obtain ⟨g, rfl, hg⟩ := h1.out.1.at sC_len ht
      have y0 := keep1c' HI.out.2.2 (hg 0 _ rfl)
      simp only [Nat.mul_one, Nat.add_zero] at y0
      have BW : Hid (Below w.heap.size w wr) := h1.out.2.trans (HI.out.2.2.mono h1.out.2.size)
      have X15 : Hid (Calls Try.prog 15 #[.pointer (some ⟨pb, 0, none⟩), .string ⟨⟨t⟩⟩] wr fun e w' => e = .returned (.tuple #[.agg #[.int .i64 a.job, .string ⟨⟨a.tn⟩⟩, .int .i64 a.pr], .int .i64 0]) ∧ Hid (Below wr.heap.size wr w')) := by
        have := H15.out wr t htm BW.out
        rw [e2] at this
        exact this
      have hpa : Hid (hdP D t = a.pr) := by show (headD D t).1.pr = _; rw [e2]
      have HT1 : Hid (T.take (k + 1) = T.take k ++ [t]) := by show _ = _; rw [List.take_add_one, ht]; rfl
      have k1 : (k : Int) < (n : Int) := by omega
      have k2 : decide ((k : Int) < (n : Int)) = true := decide_eq_true k1
      clear ht htm ha e1 e2 hg H15
      obtain ⟨aj, at', ap⟩ := a
      simp only [] at X15 hpa
      go_upto_region 7 with (go_at_call 15; refine X15.out.mono ?_; rintro e w2 ⟨rfl, b2⟩)
      have B3 : Hid (Below wr.heap.size wr (w2.alloc (.cells #[.int .i64 aj, .string ⟨⟨at'⟩⟩, .int .i64 ap] 32))) := b2.out.alloc b2.out.size _
      obtain ⟨-, -, n2⟩ := c3 (new0 (w := w2) (o := .cells #[.int .i64 aj, .string ⟨⟨at'⟩⟩, .int .i64 ap] 32))
      have n3 : w2.heap.size < (w2.alloc (.cells #[.int .i64 aj, .string ⟨⟨at'⟩⟩, .int .i64 ap] 32)).heap.size := by simp
      clear b2 X15
      generalize w2.alloc (.cells #[.int .i64 aj, .string ⟨⟨at'⟩⟩, .int .i64 ap] 32) = W3 at *
      generalize w2.heap.size = bb at *
      have B4 : Hid (Below W1.heap.size W1 W3) := HI.out.2.2.trans (B3.out.mono HI.out.2.2.size)
      have R4 : Hid (SR W1.heap.size W3 (.slice p l c) (tops D (T.take k) m)) := HI.out.2.1.below B3.out
      have HM : Hid (IsM D (T.take k) m) := HI.out.1
      have B5 : Hid (Below W1.heap.size W1 (W3.alloc (.cells #[.string ⟨⟨t⟩⟩] 9))) := B4.out.alloc B4.out.size _
      have Z5 : Hid (W1.heap.size ≤ (W3.alloc (.cells #[.string ⟨⟨t⟩⟩] 9)).heap.size) := B5.out.size
      have RR : Hid (RowV (W3.alloc (.cells #[.string ⟨⟨t⟩⟩] 9)) W3.heap.size 0 ([t].flatMap sC)) := row_one new0 rfl
      have R5 : Hid (SR W1.heap.size (W3.alloc (.cells #[.string ⟨⟨t⟩⟩] 9)) (.slice p l c) (tops D (T.take k) m)) := R4.out.below ((Below.refl _ W3).alloc (Nat.le_refl _) _)
      have e9 : Hid (l + 1 ≤ maxLen) := by show _ ≤ _; unfold maxLen; omega
      have e8 : Hid ((l + 1) * 16 ≤ 140737488355328) := by show _ ≤ _; omega
      have f9 : Hid (0 + 1 ≤ maxLen) := by show _ ≤ _; unfold maxLen; omega
      have f8 : Hid ((0 + 1) * 16 ≤ 140737488355328) := by show _ ≤ _; omega
      clear HI
      by_cases hgt : m < ap
      · have g1 : decide (m < ap) = true := decide_eq_true hgt
        have N5 : Hid (SR W1.heap.size (W3.alloc (.cells #[.string ⟨⟨t⟩⟩] 9)) (.slice none 0 0) []) := GRow.nil _ _ _ _ _
        have UP := HM.out.up (t := t) (by rw [hpa.out]; exact hgt)
        rw [hpa.out, ← HT1.out] at UP
        have UPH : Hid _ := UP
        clear UP
        go_wp2_with (first
          | (at_builtin; refine append_g (B := W1.heap.size) sC_len sC_one Try.underlying40 info9 rfl (by decide) rfl _ _ rfl none 0 0 _ rfl N5.out Z5.out W3.heap.size 0 1 1 [t] rfl rfl RR.out f9.out f8.out ?_; intro p3 c3 w3 hr3 hb3)
          | go_in)
        exact ⟨⟨k + 1, 1, ap, p3, c3, rfl, rfl, by simp, hkn, by omega, UPH.out.1, by rw [UPH.out.2]; exact hr3, B5.out.trans hb3⟩, by simp [intOf]; omega⟩
      · have g1 : decide (m < ap) = false := decide_eq_false hgt
        have ON := HM.out.on (t := t) (by rw [hpa.out]; omega)
        rw [hpa.out, ← HT1.out] at ON
        have ONH : Hid _ := ON
        clear ON
        by_cases hge : ap = m
        · have ONK : Hid (tops D (T.take (k + 1)) m = tops D (T.take k) m ++ [t]) := by have := ONH.out.2; rw [if_pos hge] at this; exact this
          have ONI := ONH.out.1
          have ONJ : Hid _ := ONI
          clear ONI ONH
          have g2 : (ap == m) = true := by simp [hge]
          have g3 : decide (ap = m) = true := decide_eq_true hge
          subst hge
          go_wp2_with (first
            | (at_builtin; refine append_g (B := W1.heap.size) sC_len sC_one Try.underlying40 info9 rfl (by decide) rfl _ _ rfl p l c _ rfl R5.out Z5.out W3.heap.size 0 1 1 [t] rfl rfl RR.out e9.out e8.out ?_; intro p3 c3 w3 hr3 hb3)
            | go_in)
          exact ⟨⟨k + 1, l + 1, ap, p3, c3, rfl, rfl, by simp, hkn, by omega, ONJ.out, by rw [ONK.out]; exact hr3, B5.out.trans hb3⟩, by simp [intOf]; omega⟩
        · have ONK : Hid (tops D (T.take (k + 1)) m = tops D (T.take k) m) := by have := ONH.out.2; rw [if_neg hge, List.append_nil] at this; exact this
          have ONI := ONH.out.1
          have ONJ : Hid _ := ONI
          clear ONI ONH
          have g2 : (ap == m) = false := by simp [hge]
          have g3 : decide (ap = m) = false := decide_eq_false hge
          go_wp2_with fail
          exact ⟨⟨k + 1, l, m, p, c, rfl, rfl, by simp, hkn, by omega, ONJ.out, by rw [ONK.out]; exact R4.out, B4.out⟩, by simp [intOf]; omega⟩
    · have k1 : ¬ (k : Int) < (n : Int) := by omega
      have k2 : decide ((k : Int) < (n : Int)) = false := decide_eq_false k1
      have HF : Hid (IsBest D m ∧ SR w.heap.size wr (.slice p l c) (tops D T m) ∧ Below w.heap.size w wr) := by
        have e1 : T.take k = T := List.take_of_length_le (by have := HT.out.2; omega)
        have h2 := HI.out
        rw [e1] at h2
        refine ⟨IsM.best hs.out (by rw [← HT.out.1]; exact h2.1), gr_base h2.2.1 h1.out.2.size, h1.out.2.trans (h2.2.2.mono h1.out.2.size)⟩
      clear HI
      go_wp2_with fail
      go_ret2
      exact ⟨m, p, l, c, rfl, HF.out⟩
theorem top_any {w : World} {S : Nat → Prop} {pb N : Nat} {D : List J} (h : Que w S pb D N) (hz : ∀ y ∈ D, y.tn.length ≤ 281474976710656) :
    Calls Try.prog 17 #[.pointer (some ⟨pb, 0, none⟩)] w fun e w' => ∃ m p l c, e = .returned (.tuple #[.int .i64 m, .slice p l c]) ∧ Hid (IsBest D m ∧ SR w.heap.size w' (.slice p l c) (tops D (tens D) m) ∧ Below w.heap.size w w') := by
  obtain ⟨⟨ow, mw, mh, l, q, h1, h2, h3, h4⟩, h5⟩ := id h
  have hf := h1.few
  have ht := h1.tens h2 h3
  refine top_raw w pb (tens D).length D (tens D) rfl h3 rfl (by rw [← ht, List.length_map]; omega) (tens_any h) fun W t ht' b => ?_
  obtain ⟨a, ha, rfl⟩ := mem_tens.1 ht'
  exact qhead_any (h.keepB b) ⟨⟨a.tn⟩⟩ (by have := hz a ha; show a.tn.length ≤ _; unfold maxLen; omega)
end Go.Proofs.Ythlbeofonbbbdaa
