/-
  The document's Register, whole; Get, Beat.
-/
import Derived.Test.YtihjmigjphljnaaBd
import Derived.Test.YtihjmigjphljnaaAd
namespace Go.Proofs.Ytihjmigjphljnaa
open Go.RowKit Go.Maps
open Tk

theorem inR_dec {ep now : Int} : (decide (1 ≤ ep) && decide (ep ≤ 2147483647) && decide (0 ≤ now) && decide (now ≤ 1099511627776)) = true ↔ inR ep now := by
  unfold inR
  simp only [Bool.and_eq_true, decide_eq_true_eq]
  constructor
  · rintro ⟨⟨⟨a, b⟩, c⟩, d⟩; exact ⟨⟨a, b⟩, c, d⟩
  · rintro ⟨⟨a, b⟩, c, d⟩; exact ⟨⟨⟨a, b⟩, c⟩, d⟩
theorem rreg_any {w : World} {T : Nat → Prop} {rb : Nat} {D : List Nd} (h : Ref w T rb D) (s : ByteArray) (hs : s.size ≤ 281474976710656) (ep now : Int) (v : V) :
    Calls Try.prog 22 #[.pointer (some ⟨rb, 0, none⟩), .string s, .int .i64 ep, .agg #[.int .i64 v.a, .int .i64 v.b, .int .i64 v.c, .int .i64 v.d], .int .i64 now] w fun e w' => e = ansR (regR D s ep v now).1 ∧ Hid (∃ T', Ref w' T' rb (regR D s ep v now).2 ∧ Step T T' w w') := by
  have h0 := h
  obtain ⟨⟨q, n, c, h1, hT⟩, hlt⟩ := h
  unfold regR
  by_cases hf : (Txt.name s && v.ok) = true
  · rw [if_pos hf]
    rw [Bool.and_eq_true] at hf
    obtain ⟨hnm, hv⟩ := hf
    by_cases hr : inR ep now
    · rw [if_pos (inR_dec.2 hr)]
      cases hf : fnd Nd.k s.data.toList D with
      | some a =>
        obtain ⟨k, hk⟩ := fnd_place hf
        obtain ⟨g, rfl⟩ := h1.row.some hk
        have hsk := (fnd_some hf).2
        have hkn : k < n := by have := (List.getElem?_eq_some_iff.1 hk).1; have := h1.n; omega
        by_cases hle : ep ≤ a.ep
        · simp only [if_pos hle]
          refine (rreg_stale w rb g n c k s hs ep now a.ep v hnm hv hr hkn hle h1.cell (h1.row.cells hk).2.1 fun w1 b => rfind_yes (h1.below b) hk hsk).mono ?_
          rintro e w' ⟨rfl, b⟩
          exact ⟨rfl, T, h0.keepB b, Step.of_below T b⟩
        · simp only [if_neg hle]
          refine (rreg_set w rb g n c k D a s hs ep now v hnm hv hr hk (by omega) h1 fun w1 b => rfind_yes (h1.below b) hk hsk).mono ?_
          rintro e w' ⟨rfl, hU⟩
          obtain ⟨U, b, rfl⟩ := hU.out
          have hX : (⟨s, ep, v, now, true⟩ : Nd).k = a.k := hsk.symm
          have r2 := ar_set8 (h1.below b).row (List.getElem?_eq_some_iff.1 hk).1 ⟨s, ep, v, now, true⟩
          have kp : Kp (· = g) w (set8 U g (k * 8) ⟨s, ep, v, now, true⟩) := kp_set8 (Kp.of_below b) rfl
          have h2 := h1.set hk hX ⟨hs, hr.1, hv, hr.2⟩ r2 kp
          rw [hsk, show s.data.toList = (⟨s, ep, v, now, true⟩ : Nd).k from rfl, ← put_upd h1.srt (show fnd Nd.k (⟨s, ep, v, now, true⟩ : Nd).k D = some a from hf)] at h2
          exact ⟨rfl, T, Ref.set hT hlt h2 kp⟩
      | none =>
        simp only
        by_cases h12 : 12 ≤ D.length
        · simp only [if_pos h12]
          refine (rreg_full w rb n c q s hs ep now v hnm hv hr (by have := h1.n; have := h1.len; omega) h1.cell fun w1 b => rfind_no (h1.below b) hf).mono ?_
          rintro e w' ⟨rfl, b⟩
          exact ⟨rfl, T, h0.keepB b, Step.of_below T b⟩
        · simp only [if_neg h12]
          refine (rreg_add w rb n c q D s hs ep now v hnm hv hr (by have := h1.n; omega) h1 fun w1 b => rfind_no (h1.below b) hf).mono ?_
          rintro e w' ⟨rfl, hP⟩
          obtain ⟨U, g, cap, k, hb, hR⟩ := hP.out
          have hins : ins Nd.k ⟨s, ep, v, now, true⟩ D = D.take k ++ ⟨s, ep, v, now, true⟩ :: D.drop k := ins_mid (f := ⟨s, ep, v, now, true⟩) h1.srt hR.gt hR.le
          have hrow := hR.h3
          rw [← hins] at hrow
          rw [put_new (n := ⟨s, ep, v, now, true⟩) hf]
          have hK : Kp T w w' := (Kp.of_below hb : Kp T w U).trans (S' := fun j => j = rb ∨ (Value.slice q n c).ownBlock = some j) ⟨hR.h4.os, hR.h4.tape, hR.h4.output, hR.h4.size, hR.h4.block⟩ fun j _ e => hT j e
          refine ⟨rfl, fun j => j = rb ∨ j = g, ⟨⟨some ⟨g, 0, none⟩, n + 1, cap, ⟨hR.h1, hrow, srt_ins h1.srt (fnd_none (show fnd Nd.k (⟨s, ep, v, now, true⟩ : Nd).k D = none from hf)), ?_, fun b hb' => ?_⟩, fun j hj => ?_⟩, fun j hj => ?_⟩, hK, fun j hj => ?_⟩
          · rw [ins_length]; omega
          · rcases mem_ins.1 hb' with rfl | hb'
            · exact ⟨hs, hr.1, hv, hr.2⟩
            · exact h1.ok b hb'
          · rcases hj with hj | hj
            · exact .inl hj
            · exact .inr (Option.some.inj hj).symm
          · rcases hj with rfl | rfl
            · exact (Array.getElem?_eq_some_iff.1 hR.h1).1
            · exact hrow.lt rfl
          · rcases hj with rfl | rfl
            · exact .inl (hT _ (.inl rfl))
            · rcases hR.h5 with h5 | h5
              · exact .inl (hT _ (.inr h5))
              · exact .inr (by have := hb.size; omega)
    · rw [if_neg (fun q => hr (inR_dec.1 q))]
      refine (rreg_range w _ s hs ep now v hnm hv hr).mono ?_
      rintro e w' ⟨rfl, b⟩
      exact ⟨rfl, T, h0.keepB b, Step.of_below T b⟩
  · rw [if_neg hf]
    refine (rreg_form w _ s hs ep now v (Bool.eq_false_iff.2 hf)).mono ?_
    rintro e w' ⟨rfl, b⟩
    exact ⟨rfl, T, h0.keepB b, Step.of_below T b⟩
/-! ### Get -/
set_option maxHeartbeats 1000000 in
theorem rget_no (w : World) (rb : Nat) (s : ByteArray) (H : Hid (∀ w1, Below w.heap.size w w1 → Calls Try.prog 39 #[.pointer (some ⟨rb, 0, none⟩), .string s] w1 fun e w' => e = .returned (.int .i64 (-1)) ∧ w' = w1)) : Calls Try.prog 26 #[.pointer (some ⟨rb, 0, none⟩), .string s] w fun e w' => e = ansN (Nd.z, 3) ∧ Below w.heap.size w w' := by
  go_enter Try.func26, Try.ntmps26
  go_upto_region 2 with (go_at_call 39; refine (H.out _ ((Below.refl _ w).alloc (Nat.le_refl _) _)).mono ?_; rintro e w2 ⟨rfl, h2⟩; obtain rfl := h2.symm)
  clear H
  go_wp2_with fail
  refine bodyPost_ret (v := .tuple #[.agg #[.string ⟨#[]⟩, .int .i64 0, .int .i64 0, .int .i64 0, .int .i64 0, .int .i64 0, .int .i64 0, .bool false], .int .i64 3]) (by rw [results_cell_tmp rfl]; go_simp) rfl ⟨rfl, by go_grown⟩
set_option maxHeartbeats 1000000 in
theorem rget_yes (w : World) (rb g n c k : Nat) (s : ByteArray) (a : Nd) (hk : k < n) (hc : Hid (w.heap[rb]? = some (.cells #[.slice (some ⟨g, 0, none⟩) n c] 29 (0, 0))))
    (hd : Hid (w.cell? ⟨g, k * 8, none⟩ = some (.string a.nm) ∧ w.cell? ⟨g, k * 8 + 1, none⟩ = some (.int .i64 a.ep) ∧ w.cell? ⟨g, k * 8 + 2, none⟩ = some (.int .i64 a.v.a) ∧ w.cell? ⟨g, k * 8 + 3, none⟩ = some (.int .i64 a.v.b) ∧ w.cell? ⟨g, k * 8 + 4, none⟩ = some (.int .i64 a.v.c) ∧ w.cell? ⟨g, k * 8 + 5, none⟩ = some (.int .i64 a.v.d) ∧ w.cell? ⟨g, k * 8 + 6, none⟩ = some (.int .i64 a.sn) ∧ w.cell? ⟨g, k * 8 + 7, none⟩ = some (.bool a.lv)))
    (H : Hid (∀ w1, Below w.heap.size w w1 → Calls Try.prog 39 #[.pointer (some ⟨rb, 0, none⟩), .string s] w1 fun e w' => e = .returned (.int .i64 k) ∧ w' = w1)) : Calls Try.prog 26 #[.pointer (some ⟨rb, 0, none⟩), .string s] w fun e w' => e = ansN (a, 0) ∧ Below w.heap.size w w' := by
  have hki : (k : Int) < (n : Int) := by omega
  have hk0 : (0 : Int) ≤ (k : Int) := by omega
  go_enter Try.func26, Try.ntmps26
  go_upto_region 2 with (go_at_call 39; refine (H.out _ ((Below.refl _ w).alloc (Nat.le_refl _) _)).mono ?_; rintro e w2 ⟨rfl, h2⟩; obtain rfl := h2.symm)
  have b1 : Below w.heap.size w (w.alloc (.cells #[.string ⟨#[]⟩, .int .i64 0, .int .i64 0, .int .i64 0, .int .i64 0, .int .i64 0, .int .i64 0, .bool false] 46)) := (Below.refl _ w).alloc (Nat.le_refl _) _
  have e0 := c1 (at_below b1 (Nat.le_refl _) hc.out)
  have d0 := cell_below hd.out.1 b1
  have d1 := cell_below hd.out.2.1 b1
  have d2 := cell_below hd.out.2.2.1 b1
  have d3 := cell_below hd.out.2.2.2.1 b1
  have d4 := cell_below hd.out.2.2.2.2.1 b1
  have d5 := cell_below hd.out.2.2.2.2.2.1 b1
  have d6 := cell_below hd.out.2.2.2.2.2.2.1 b1
  have d7 := cell_below hd.out.2.2.2.2.2.2.2 b1
  clear H hc hd b1
  go_wp2_with fail
  refine bodyPost_ret (v := .tuple #[.agg #[.string a.nm, .int .i64 a.ep, .int .i64 a.v.a, .int .i64 a.v.b, .int .i64 a.v.c, .int .i64 a.v.d, .int .i64 a.sn, .bool a.lv], .int .i64 0]) (by rw [results_cell_tmp rfl]; go_simp) rfl ⟨rfl, by go_grown⟩
theorem rget_any {w : World} {T : Nat → Prop} {rb : Nat} {D : List Nd} (h : Ref w T rb D) (s : ByteArray) :
    Calls Try.prog 26 #[.pointer (some ⟨rb, 0, none⟩), .string s] w fun e w' => e = ansN (getR D s.data.toList) ∧ Below w.heap.size w w' := by
  obtain ⟨⟨q, n, c, h1, -⟩, -⟩ := h
  unfold getR
  cases hf : fnd Nd.k s.data.toList D with
  | none => exact rget_no w _ s fun w1 b => rfind_no (h1.below b) hf
  | some a =>
    obtain ⟨k, hk⟩ := fnd_place hf
    obtain ⟨g, rfl⟩ := h1.row.some hk
    have hkn : k < n := by have := (List.getElem?_eq_some_iff.1 hk).1; have := h1.n; omega
    exact rget_yes w rb g n c k s a hkn h1.cell (h1.row.cells hk) fun w1 b => rfind_yes (h1.below b) hk (fnd_some hf).2
/-! ### Beat -/
set_option maxHeartbeats 1000000 in
theorem rbeat_no (w : World) (rb : Nat) (s : ByteArray) (ep now : Int) (H : Hid (Calls Try.prog 39 #[.pointer (some ⟨rb, 0, none⟩), .string s] w fun e w' => e = .returned (.int .i64 (-1)) ∧ w' = w)) : Calls Try.prog 23 #[.pointer (some ⟨rb, 0, none⟩), .string s, .int .i64 ep, .int .i64 now] w fun e w' => e = .returned (.int .i64 3) ∧ w' = w := by
  go_enter Try.func23, Try.ntmps23
  go_wp2_with (go_at_call 39; refine H.out.mono ?_; rintro e w2 ⟨rfl, h2⟩; obtain rfl := h2.symm)
  go_ret
  exact ⟨rfl, rfl⟩
set_option maxHeartbeats 1000000 in
theorem rbeat_ref (w : World) (rb g n c k : Nat) (s : ByteArray) (ep now : Int) (a : Nd) (r : Int) (hk : k < n) (hc : w.cell? ⟨rb, 0, none⟩ = some (.slice (some ⟨g, 0, none⟩) n c))
    (d1 : w.cell? ⟨g, k * 8 + 1, none⟩ = some (.int .i64 a.ep)) (d6 : w.cell? ⟨g, k * 8 + 6, none⟩ = some (.int .i64 a.sn)) (d7 : w.cell? ⟨g, k * 8 + 7, none⟩ = some (.bool a.lv))
    (hx : (a.ep ≠ ep ∧ r = 14) ∨ (a.ep = ep ∧ a.lv = false ∧ r = 14) ∨ (a.ep = ep ∧ a.lv = true ∧ now < a.sn ∧ r = 2) ∨ (a.ep = ep ∧ a.lv = true ∧ a.sn ≤ now ∧ 1099511627776 < now ∧ r = 2))
    (H : Hid (Calls Try.prog 39 #[.pointer (some ⟨rb, 0, none⟩), .string s] w fun e w' => e = .returned (.int .i64 k) ∧ w' = w)) : Calls Try.prog 23 #[.pointer (some ⟨rb, 0, none⟩), .string s, .int .i64 ep, .int .i64 now] w fun e w' => e = .returned (.int .i64 r) ∧ w' = w := by
  have hki : (k : Int) < (n : Int) := by omega
  have hk0 : (0 : Int) ≤ (k : Int) := by omega
  obtain ⟨an, ae, av, sn, al⟩ := a
  simp only at *
  go_enter Try.func23, Try.ntmps23
  go_upto_region 2 with (go_at_call 39; refine H.out.mono ?_; rintro e w2 ⟨rfl, h2⟩; obtain rfl := h2.symm)
  clear H
  rcases hx with ⟨h1, rfl⟩ | ⟨rfl, rfl, rfl⟩ | ⟨rfl, rfl, h1, rfl⟩ | ⟨rfl, rfl, h1, h2, rfl⟩
  · have hb : (ae == ep) = false := by simpa using h1
    go_wp2_with fail
    go_ret
    exact ⟨rfl, rfl⟩
  all_goals go_wp2_with fail
  all_goals go_ret
  all_goals exact ⟨rfl, rfl⟩
set_option maxHeartbeats 1000000 in
theorem rbeat_yes (w : World) (rb g n c k : Nat) (s : ByteArray) (now : Int) (a : Nd) (hk : k < n) (hc : w.cell? ⟨rb, 0, none⟩ = some (.slice (some ⟨g, 0, none⟩) n c))
    (d1 : w.cell? ⟨g, k * 8 + 1, none⟩ = some (.int .i64 a.ep)) (d6 : w.cell? ⟨g, k * 8 + 6, none⟩ = some (.int .i64 a.sn)) (d7 : w.cell? ⟨g, k * 8 + 7, none⟩ = some (.bool a.lv)) (f6 : w.frozen? ⟨g, k * 8 + 6, none⟩ = false)
    (hl : a.lv = true) (h1 : a.sn ≤ now) (h2 : now ≤ 1099511627776)
    (H : Hid (Calls Try.prog 39 #[.pointer (some ⟨rb, 0, none⟩), .string s] w fun e w' => e = .returned (.int .i64 k) ∧ w' = w)) : Calls Try.prog 23 #[.pointer (some ⟨rb, 0, none⟩), .string s, .int .i64 a.ep, .int .i64 now] w fun e w' => e = .returned (.int .i64 0) ∧ w' = w.setCell ⟨g, k * 8 + 6, none⟩ (.int .i64 now) := by
  have hki : (k : Int) < (n : Int) := by omega
  have hk0 : (0 : Int) ≤ (k : Int) := by omega
  obtain ⟨an, ae, av, sn, al⟩ := a
  simp only at *
  subst hl
  go_enter Try.func23, Try.ntmps23
  go_upto_region 2 with (go_at_call 39; refine H.out.mono ?_; rintro e w2 ⟨rfl, h2⟩; obtain rfl := h2.symm)
  clear H
  go_wp2_with fail
  go_ret
  exact ⟨rfl, rfl⟩
theorem rbeat_any {w : World} {T : Nat → Prop} {rb : Nat} {D : List Nd} (h : Ref w T rb D) (s : ByteArray) (ep now : Int) :
    Calls Try.prog 23 #[.pointer (some ⟨rb, 0, none⟩), .string s, .int .i64 ep, .int .i64 now] w fun e w' => e = .returned (.int .i64 (beatR D s.data.toList ep now).1) ∧ Hid (∃ T', Ref w' T' rb (beatR D s.data.toList ep now).2 ∧ Step T T' w w') := by
  have h0 := h
  obtain ⟨⟨q, n, c, h1, hT⟩, hlt⟩ := h
  unfold beatR
  cases hf : fnd Nd.k s.data.toList D with
  | none =>
    refine (rbeat_no w rb s ep now (rfind_no h1 hf)).mono ?_
    rintro e w' ⟨rfl, rfl⟩
    exact ⟨rfl, T, h0, Step.refl _ _⟩
  | some a =>
    obtain ⟨k, hk⟩ := fnd_place hf
    obtain ⟨g, rfl⟩ := h1.row.some hk
    have hsk := (fnd_some hf).2
    have hkn : k < n := by have := (List.getElem?_eq_some_iff.1 hk).1; have := h1.n; omega
    obtain ⟨-, d1, -, -, -, -, d6, d7⟩ := h1.row.cells hk
    have hc := c1 h1.cell
    by_cases hp : (ep = a.ep ∧ a.lv = true) ∧ a.sn ≤ now ∧ now ≤ 1099511627776
    · obtain ⟨⟨rfl, hl⟩, i1, i2⟩ := hp
      simp only [hl, and_self, i1, i2, if_true]
      refine (rbeat_yes w rb g n c k s now a hkn hc d1 d6 d7 (h1.row.fz _) hl i1 i2 (rfind_yes h1 hk hsk)).mono ?_
      rintro e w' ⟨rfl, rfl⟩
      have r2 := h1.row.set1 hk (j := 6) (u := .int .i64 now) (a' := { a with sn := now }) (by omega) rfl
      have kp : Kp (· = g) w (w.setCell ⟨g, k * 8 + 6, none⟩ (.int .i64 now)) := kp_one (Kp.refl _ _) rfl
      have ok := h1.ok a (List.mem_of_getElem? hk)
      have h2 := h1.set (x := { a with sn := now }) hk rfl ⟨ok.1, ok.2.1, ok.2.2.1, by have := ok.2.2.2.1; show (0 : Int) ≤ now; omega, i2⟩ r2 kp
      rw [show a.k = ({ a with sn := now } : Nd).k from rfl, ← put_upd h1.srt (show fnd Nd.k ({ a with sn := now } : Nd).k D = some a from hsk.symm ▸ hf)] at h2
      rw [hl] at h2
      exact ⟨rfl, T, Ref.set hT hlt h2 kp⟩
    · have hx : ∃ r : Int, ((a.ep ≠ ep ∧ r = 14) ∨ (a.ep = ep ∧ a.lv = false ∧ r = 14) ∨ (a.ep = ep ∧ a.lv = true ∧ now < a.sn ∧ r = 2) ∨ (a.ep = ep ∧ a.lv = true ∧ a.sn ≤ now ∧ 1099511627776 < now ∧ r = 2)) ∧ (if ep = a.ep ∧ a.lv = true then (if a.sn ≤ now ∧ now ≤ 1099511627776 then ((0 : Int), put { a with sn := now } D) else (2, D)) else (14, D)) = (r, D) := by
        by_cases e1 : ep = a.ep
        · cases hl : a.lv with
          | false => exact ⟨14, .inr (.inl ⟨e1.symm, rfl, rfl⟩), by rw [if_neg (by simp)]⟩
          | true =>
            refine ⟨2, ?_, ?_⟩
            · by_cases e2 : now < a.sn
              · exact .inr (.inr (.inl ⟨e1.symm, rfl, e2, rfl⟩))
              · exact .inr (.inr (.inr ⟨e1.symm, rfl, by omega, by
                  by_cases e3 : now ≤ 1099511627776
                  · exact absurd ⟨⟨e1, hl⟩, by omega, e3⟩ hp
                  · omega, rfl⟩))
            · rw [if_pos ⟨e1, rfl⟩, if_neg fun q => hp ⟨⟨e1, hl⟩, q⟩]
        · exact ⟨14, .inl ⟨fun q => e1 q.symm, rfl⟩, by rw [if_neg fun q => e1 q.1]⟩
      obtain ⟨r, hx, e⟩ := hx
      simp only [e]
      refine (rbeat_ref w rb g n c k s ep now a r hkn hc d1 d6 d7 hx (rfind_yes h1 hk hsk)).mono ?_
      rintro e w' ⟨rfl, rfl⟩
      exact ⟨rfl, T, h0, Step.refl _ _⟩
end Go.Proofs.Ytihjmigjphljnaa
