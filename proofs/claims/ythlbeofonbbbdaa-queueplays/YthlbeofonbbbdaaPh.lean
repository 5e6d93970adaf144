/-
  The document's queue on any list: Push, Tenants. The document's queue on any list: Top. Both queues in a law, apart; the document's Same.
-/
import Derived.Test.YthlbeofonbbbdaaPe
import Derived.Test.YthlbeofonbbbdaaTp
import Derived.BigQuiet
import Derived.Laws.Cover1
import Derived.Test.YthlbeofonbbbdaaBb
import Derived.BigRegion
namespace Go.Proofs.Ythlbeofonbbbdaa
open Go.RowKit Go.Maps Go.WideMaps Go.Sort
section
variable {w : World} {T : Nat → Prop} {rb n c : Nat} {q : Option Addr} {D : List J}
set_option maxHeartbeats 1000000 in
set_option maxRecDepth 100000 in
theorem rpush_twice (h : RQ w T rb q n c D) (hn : n ≤ 1000) (x : J) (hx : x.ok = true) {a : J} (hf : fJ x.job D = some a) : Calls Try.prog 19 #[.pointer (some ⟨rb, 0, none⟩), .agg #[.int .i64 x.job, .string ⟨⟨x.tn⟩⟩, .int .i64 x.pr]] w fun e w' => e = .returned (.int .i64 5) ∧ Below w.heap.size w w' := by
  obtain ⟨j, t, p⟩ := x
  obtain ⟨j1, j2, p1, p2⟩ := ok_pr hx
  simp only [] at j1 j2 p1 p2
  have h1 : ¬ j < 1 := by omega
  have h2 : ¬ 100 < j := by omega
  have h3 : ¬ p < 0 := by omega
  have h4 : ¬ 100 < p := by omega
  obtain ⟨k, hix⟩ : ∃ k : Nat, ix j D = (k : Int) := by
    rcases fJ_ix j D with ⟨k, _, e, _⟩ | ⟨_, e⟩
    · exact ⟨k, e⟩
    · rw [hf] at e; cases e
  have bA : Below w.heap.size w (w.alloc (.cells #[.int .i64 j, .string ⟨⟨t⟩⟩, .int .i64 p] 56)) := (Below.refl _ w).alloc (Nat.le_refl _) _
  have X37 : Hid (Calls Try.prog 37 #[.pointer (some ⟨rb, 0, none⟩), .int .i64 j] (w.alloc (.cells #[.int .i64 j, .string ⟨⟨t⟩⟩, .int .i64 p] 56)) fun e w' => e = .returned (.int .i64 (k : Int)) ∧ w' = w.alloc (.cells #[.int .i64 j, .string ⟨⟨t⟩⟩, .int .i64 p] 56)) := by
    have := rfind_any (h.below bA) (by omega) j
    rw [hix] at this
    exact this
  have HB : Hid (Below w.heap.size w (w.alloc (.cells #[.int .i64 j, .string ⟨⟨t⟩⟩, .int .i64 p] 56))) := bA
  have k1 : (0 : Int) ≤ (k : Int) := by omega
  clear j1 j2 p1 p2 hx hf hix bA h
  simp only []
  go_enter Try.func19, Try.ntmps19
  go_wp2_with (go_at_call 37; refine X37.out.mono ?_; rintro e w1 ⟨rfl, h1⟩; obtain rfl := h1.symm)
  go_ret
  exact ⟨rfl, HB.out⟩
theorem rpush_any (h : RQ w T rb q n c D) (hs : SJ D) (hn : n ≤ 1000) (x : J) : Calls Try.prog 19 #[.pointer (some ⟨rb, 0, none⟩), .agg #[.int .i64 x.job, .string ⟨⟨x.tn⟩⟩, .int .i64 x.pr]] w fun e w' => e = .returned (.int .i64 (pushD D x).1) ∧ Hid (RqR w T rb (pushD D x).2 w') := by
  unfold pushD
  cases hx : x.ok with
  | false => exact (rpush_bad w rb x ⟨⟨x.tn⟩⟩ hx).mono fun e w' ⟨h1, h2⟩ => ⟨h1, h.below' h2⟩
  | true =>
    cases hf : fJ x.job D with
    | some a => exact (rpush_twice h hn x hx hf).mono fun e w' ⟨h1, h2⟩ => ⟨h1, h.below' h2⟩
    | none => exact rpush_in h hs hn x hx hf
theorem tens_new {k : Nat} {a : J} (hs : SJ D) (ha : D[k]? = some a) (hp : k = 0 ∨ ∃ b, D[k - 1]? = some b ∧ b.tn ≠ a.tn) : tens (D.take (k + 1)) = tens (D.take k) ++ [a.tn] := by
  have hL : D.take (k + 1) = D.take k ++ [a] := by rw [List.take_add_one, ha]; rfl
  have s1 : SJ (D.take (k + 1)) := hs.sublist (List.take_sublist _ _)
  have s0 : SJ (D.take k) := hs.sublist (List.take_sublist _ _)
  refine srt_uniq (srt_tens s1) ?_ fun t => ?_
  · refine List.pairwise_append.2 ⟨srt_tens s0, List.pairwise_singleton _ _, fun x hx y hy => ?_⟩
    rw [List.mem_singleton.1 hy]
    obtain ⟨b, hb, rfl⟩ := mem_tens.1 hx
    rcases hp with rfl | ⟨z, hz, hzn⟩
    · simp at hb
    · obtain ⟨hk, hae⟩ := List.getElem?_eq_some_iff.1 ha
      obtain ⟨hk1, hze⟩ := List.getElem?_eq_some_iff.1 hz
      obtain ⟨i, hi, rfl⟩ := List.getElem_of_mem hb
      rw [List.length_take] at hi
      rw [List.getElem_take]
      have hza : bytesBefore z.tn a.tn = true := by
        have := List.pairwise_iff_getElem.1 hs (k - 1) k hk1 hk (by
          by_cases e : k = 0
          · subst e; simp at hi
          · omega)
        rw [hae, hze] at this
        unfold bf at this
        rwa [if_neg hzn] at this
      by_cases e : i = k - 1
      · subst e; rw [hze]; exact hza
      · have := List.pairwise_iff_getElem.1 hs i (k - 1) (by omega) hk1 (by omega)
        rw [hze] at this
        unfold bf at this
        split at this
        · rename_i e2; rw [e2]; exact hza
        · exact WideShapes.bytes_trans _ _ _ this hza
  · rw [mem_tens, hL, List.mem_append, List.mem_singleton, mem_tens]
    constructor
    · rintro ⟨b, hb, rfl⟩
      rcases List.mem_append.1 hb with q | q
      · exact .inl ⟨b, q, rfl⟩
      · rw [List.mem_singleton.1 q]; exact .inr rfl
    · rintro (⟨b, hb, rfl⟩ | rfl)
      · exact ⟨b, List.mem_append_left _ hb, rfl⟩
      · exact ⟨a, List.mem_append_right _ (List.mem_singleton.2 rfl), rfl⟩
theorem tens_old {k : Nat} {a b : J} (hs : SJ D) (ha : D[k]? = some a) (hk : 0 < k) (hb : D[k - 1]? = some b) (e : b.tn = a.tn) : tens (D.take (k + 1)) = tens (D.take k) := by
  have hL : D.take (k + 1) = D.take k ++ [a] := by rw [List.take_add_one, ha]; rfl
  refine srt_uniq (srt_tens (hs.sublist (List.take_sublist _ _))) (srt_tens (hs.sublist (List.take_sublist _ _))) fun t => ?_
  rw [mem_tens, mem_tens, hL]
  have hbm : b ∈ D.take k := by
    have : (D.take k)[k - 1]? = some b := by rw [List.getElem?_take, if_pos (by omega)]; exact hb
    exact List.mem_of_getElem? this
  constructor
  · rintro ⟨x, hx, rfl⟩
    rcases List.mem_append.1 hx with q | q
    · exact ⟨x, q, rfl⟩
    · rw [List.mem_singleton.1 q]; exact ⟨b, hbm, e⟩
  · rintro ⟨x, hx, rfl⟩
    exact ⟨x, List.mem_append_left _ hx, rfl⟩
theorem tens_le (D : List J) : (tens D).length ≤ D.length := by
  induction D with
  | nil => simp [tens]
  | cons a r ih =>
    rw [tens]
    split
    · split
      · rw [List.length_cons]; omega
      · rw [List.length_cons, List.length_cons]; omega
    · simp
set_option maxHeartbeats 2000000 in
set_option maxRecDepth 100000 in
theorem rtens_any (h : RQ w T rb q n c D) (hs : SJ D) (hn : n ≤ 1000) : Calls Try.prog 28 #[.pointer (some ⟨rb, 0, none⟩)] w fun e w' => ∃ p c', e = .returned (.slice p (tens D).length c') ∧ Hid (SR w.heap.size w' (.slice p (tens D).length c') (tens D) ∧ Below w.heap.size w w') := by
  have hnl : Hid (n = D.length) := h.len
  have HQ : Hid (RQ w T rb q n c D ∧ SJ D) := ⟨h, hs⟩
  have e00 := c1 h.h
  have hlt := h.l rb h.t
  clear h hs
  go_enter Try.func28, Try.ntmps28
  go_wp2_with fail
  clear e00 hlt
  go_loopw [3, 4] (fun v x wr => ∃ (k m : Nat) (p : Option Addr) (c' : Nat), v = .slice p m c' ∧ x = .int .i64 k ∧ k ≤ n ∧ m ≤ k ∧ Hid (m = (tens (D.take k)).length ∧ SR w.heap.size wr (.slice p m c') (tens (D.take k)) ∧ Below w.heap.size w wr)) (fun _ x _ => n - (intOf x).toNat)
  case atStart => exact ⟨0, 0, none, 0, rfl, rfl, Nat.zero_le _, Nat.le_refl _, rfl, GRow.nil _ _ _ _ _, Below.refl _ _⟩
  case round =>
    obtain ⟨k, m, p, c', rfl, rfl, hk, hmk, HI⟩ := hrel
    have hB := HQ.out.1.below HI.out.2.2
    have e0 := c1 hB.h
    have hlt := hB.l rb hB.t
    by_cases hkn : k < n
    · have k1 : (k : Int) < (n : Int) := by omega
      have k2 : decide ((k : Int) < (n : Int)) = true := decide_eq_true k1
      obtain ⟨a, ha⟩ : ∃ a, D[k]? = some a := ⟨_, List.getElem?_eq_getElem (by have := hnl.out; omega)⟩
      obtain ⟨g, rfl, y0, y1, y2⟩ := rq_cells hB ha
      rcases Nat.eq_zero_or_pos k with hk0 | hk0
      · have HT : Hid (tens (D.take k) ++ [a.tn] = tens (D.take (k + 1))) := (tens_new HQ.out.2 ha (.inl hk0)).symm
        have j1 : ((k : Int) == 0) = true := by simp; omega
        have j2 : decide ((k : Int) = 0) = true := decide_eq_true (by omega)
        have j3 : (k : Int) = 0 := by omega
        obtain ⟨aj, an, ap⟩ := a
        simp only [] at y0 y1 y2 HT
        clear ha hB hk0
        go_upto_region 5 with fail
        go_quiet (fail)
        clear j1 j2 j3
        have HB5 : Hid (Below wr.heap.size wr (wr.drewN nq)) := below_drewN (Below.refl _ wr) nq
        have y5 : (wr.drewN nq).cell? ⟨g, k * 3 + 1, none⟩ = some (.string ⟨⟨an⟩⟩) := y1
        have e5 : (wr.drewN nq).cell? ⟨rb, 0, none⟩ = some (.slice (some ⟨g, 0, none⟩) n c) := e0
        have l5 : rb < (wr.drewN nq).heap.size := hlt
        clear y0 y1 y2 e0 hlt
        generalize wr.drewN nq = W5 at *
        have HI5 : Hid (m = (tens (D.take k)).length ∧ SR w.heap.size W5 (.slice p m c') (tens (D.take k)) ∧ Below w.heap.size w W5) := ⟨HI.out.1, HI.out.2.1.below HB5.out, below_from HI.out.2.2 HB5.out HI.out.2.2.size⟩
        have B5 : Hid (Below w.heap.size w (W5.alloc (.cells #[.string ⟨⟨an⟩⟩] 9))) := HI5.out.2.2.alloc HI5.out.2.2.size _
        have Z5 : Hid (w.heap.size ≤ (W5.alloc (.cells #[.string ⟨⟨an⟩⟩] 9)).heap.size) := B5.out.size
        have RR : Hid (RowV (W5.alloc (.cells #[.string ⟨⟨an⟩⟩] 9)) W5.heap.size 0 ([an].flatMap sC)) := row_one new0 rfl
        have R5 : Hid (SR w.heap.size (W5.alloc (.cells #[.string ⟨⟨an⟩⟩] 9)) (.slice p m c') (tens (D.take k))) := HI5.out.2.1.below ((Below.refl _ W5).alloc (Nat.le_refl _) _)
        have HM5 : Hid (m + 1 = (tens (D.take (k + 1))).length) := by show _ = _; rw [← HT.out, List.length_append, ← HI5.out.1]; rfl
        have e9 : Hid (m + 1 ≤ maxLen) := by show _ ≤ _; unfold maxLen; omega
        have e8 : Hid ((m + 1) * 16 ≤ 140737488355328) := by show _ ≤ _; omega
        clear HI HB5
        go_wp2_with (first
          | (at_builtin; refine append_g (B := w.heap.size) sC_len sC_one Try.underlying40 info9 rfl (by decide) rfl _ _ rfl p m c' _ rfl R5.out Z5.out W5.heap.size 0 1 1 [an] rfl rfl RR.out e9.out e8.out ?_; intro p3 c3 w3 hr3 hb3)
          | go_in)
        rw [HT.out] at hr3
        exact ⟨⟨k + 1, m + 1, p3, c3, rfl, by simp, hkn, by omega, HM5.out, hr3, B5.out.trans hb3⟩, by simp [intOf]; omega⟩
      · obtain ⟨k', hk'⟩ : ∃ k', k = k' + 1 := ⟨k - 1, by omega⟩
        obtain ⟨b, hb⟩ : ∃ b, D[k']? = some b := ⟨_, List.getElem?_eq_getElem (by have := hnl.out; omega)⟩
        have hb1 : D[k - 1]? = some b := by rw [hk']; exact hb
        obtain ⟨g', e', u0, u1, u2⟩ := rq_cells hB hb
        cases e'
        have j1 : ((k : Int) == 0) = false := by simp; omega
        have j2 : decide ((k : Int) = 0) = false := decide_eq_false (by omega)
        have j3 : ¬ (k : Int) = 0 := by omega
        have q4 : (k : Int) - 1 = (k' : Int) := by omega
        have q5 : (k' : Int) < (n : Int) := by omega
        have q7 : k' < n := by omega
        have q8 : (k : Int) ≤ 1000 := by omega
        have q9 : IntKind.i64.wrap (k' : Int) = (k' : Int) := by simp [IntKind.wrap, IntKind.bits, IntKind.signed]; omega
        by_cases hne : b.tn = a.tn
        · have HT : Hid (tens (D.take (k + 1)) = tens (D.take k)) := tens_old HQ.out.2 ha hk0 hb1 hne
          obtain ⟨aj, an, ap⟩ := a
          obtain ⟨bj, bn, bp⟩ := b
          simp only [] at y0 y1 y2 HT hne u0 u1 u2
          subst hne
          clear ha hB hb hb1 hk' u0 u2 y0 y2
          go_upto_region 5 with fail
          go_quiet (fail)
          have HI5 : Hid (m = (tens (D.take (k + 1))).length ∧ SR w.heap.size (wr.drewN nq) (.slice p m c') (tens (D.take (k + 1))) ∧ Below w.heap.size w (wr.drewN nq)) := by show _ ∧ _; rw [HT.out]; exact ⟨HI.out.1, HI.out.2.1.below (below_drewN (Below.refl _ wr) nq), below_from HI.out.2.2 (below_drewN (Below.refl _ wr) nq) HI.out.2.2.size⟩
          clear HI y1 u1 e0 hlt
          generalize wr.drewN nq = W5 at *
          go_wp2_with fail
          exact ⟨⟨k + 1, m, p, c', rfl, by simp, hkn, by omega, HI5.out⟩, by simp [intOf]; omega⟩
        · have HT : Hid (tens (D.take k) ++ [a.tn] = tens (D.take (k + 1))) := (tens_new HQ.out.2 ha (.inr ⟨b, hb1, hne⟩)).symm
          obtain ⟨aj, an, ap⟩ := a
          obtain ⟨bj, bn, bp⟩ := b
          simp only [] at y0 y1 y2 HT hne u0 u1 u2
          have g1 : (bn == an) = false := by simpa using hne
          have g2 : (bn != an) = true := by simpa using hne
          clear ha hB hb hb1 hk' u0 u2 hne
          go_upto_region 5 with fail
          go_quiet (fail)
          clear u1
          have HB5 : Hid (Below wr.heap.size wr (wr.drewN nq)) := below_drewN (Below.refl _ wr) nq
          have y5 : (wr.drewN nq).cell? ⟨g, k * 3 + 1, none⟩ = some (.string ⟨⟨an⟩⟩) := y1
          have e5 : (wr.drewN nq).cell? ⟨rb, 0, none⟩ = some (.slice (some ⟨g, 0, none⟩) n c) := e0
          have l5 : rb < (wr.drewN nq).heap.size := hlt
          clear y0 y1 y2 e0 hlt
          generalize wr.drewN nq = W5 at *
          have HI5 : Hid (m = (tens (D.take k)).length ∧ SR w.heap.size W5 (.slice p m c') (tens (D.take k)) ∧ Below w.heap.size w W5) := ⟨HI.out.1, HI.out.2.1.below HB5.out, below_from HI.out.2.2 HB5.out HI.out.2.2.size⟩
          have B5 : Hid (Below w.heap.size w (W5.alloc (.cells #[.string ⟨⟨an⟩⟩] 9))) := HI5.out.2.2.alloc HI5.out.2.2.size _
          have Z5 : Hid (w.heap.size ≤ (W5.alloc (.cells #[.string ⟨⟨an⟩⟩] 9)).heap.size) := B5.out.size
          have RR : Hid (RowV (W5.alloc (.cells #[.string ⟨⟨an⟩⟩] 9)) W5.heap.size 0 ([an].flatMap sC)) := row_one new0 rfl
          have R5 : Hid (SR w.heap.size (W5.alloc (.cells #[.string ⟨⟨an⟩⟩] 9)) (.slice p m c') (tens (D.take k))) := HI5.out.2.1.below ((Below.refl _ W5).alloc (Nat.le_refl _) _)
          have HM5 : Hid (m + 1 = (tens (D.take (k + 1))).length) := by show _ = _; rw [← HT.out, List.length_append, ← HI5.out.1]; rfl
          have e9 : Hid (m + 1 ≤ maxLen) := by show _ ≤ _; unfold maxLen; omega
          have e8 : Hid ((m + 1) * 16 ≤ 140737488355328) := by show _ ≤ _; omega
          clear HI HB5
          go_wp2_with (first
            | (at_builtin; refine append_g (B := w.heap.size) sC_len sC_one Try.underlying40 info9 rfl (by decide) rfl _ _ rfl p m c' _ rfl R5.out Z5.out W5.heap.size 0 1 1 [an] rfl rfl RR.out e9.out e8.out ?_; intro p3 c3 w3 hr3 hb3)
            | go_in)
          rw [HT.out] at hr3
          exact ⟨⟨k + 1, m + 1, p3, c3, rfl, by simp, hkn, by omega, HM5.out, hr3, B5.out.trans hb3⟩, by simp [intOf]; omega⟩
    · have k1 : ¬ (k : Int) < (n : Int) := by omega
      have k2 : decide ((k : Int) < (n : Int)) = false := decide_eq_false k1
      have HF : Hid (m = (tens D).length ∧ SR w.heap.size wr (.slice p m c') (tens D) ∧ Below w.heap.size w wr) := by
        have e1 : D.take k = D := List.take_of_length_le (by have := hnl.out; omega)
        have h2 := HI.out
        rw [e1] at h2
        exact h2
      clear HI
      go_wp2_with fail
      go_ret
      refine ⟨p, c', by rw [HF.out.1]; rfl, ?_⟩
      have := HF.out
      rw [← this.1]
      exact this.2
end
end Go.Proofs.Ythlbeofonbbbdaa

namespace Go.Proofs.Ythlbeofonbbbdaa
open Go.RowKit Go.Maps Go.WideMaps Go.Sort
theorem IsBest.more {D : List J} {x : J} {m : Int} (h : IsBest D m) : IsBest (D ++ [x]) (max m x.pr) := by
  obtain ⟨h1, h2, h3⟩ := h
  refine ⟨by omega, fun a ha => ?_, ?_⟩
  · rcases List.mem_append.1 ha with q | q
    · have := h2 a q; omega
    · rw [List.mem_singleton.1 q]; omega
  · by_cases e : m ≤ x.pr
    · exact .inr ⟨x, by simp, by omega⟩
    · rcases h3 with h3 | ⟨a, ha, h3⟩
      · exact .inl (by omega)
      · exact .inr ⟨a, List.mem_append_left _ ha, by omega⟩
theorem tops_one {D : List J} {T : List (List UInt8)} {m : Int} {t : List UInt8} : tops D (T ++ [t]) m = tops D T m ++ (if hdP D t = m then [t] else []) := by
  unfold tops
  rw [List.filter_append]
  by_cases e : hdP D t = m <;> simp [e]
section
variable {w : World} {T : Nat → Prop} {rb n c : Nat} {q : Option Addr} {D : List J}
set_option maxHeartbeats 2000000 in
set_option maxRecDepth 100000 in
theorem rtop_any (h : RQ w T rb q n c D) (hs : SJ D) (hn : n ≤ 1000) : Calls Try.prog 26 #[.pointer (some ⟨rb, 0, none⟩)] w fun e w' => ∃ m p l c, e = .returned (.tuple #[.int .i64 m, .slice p l c]) ∧ Hid (IsBest D m ∧ SR w.heap.size w' (.slice p l c) (tops D (tens D) m) ∧ Below w.heap.size w w') := by
  have hnl : Hid (n = D.length) := h.len
  have HQ : Hid (RQ w T rb q n c D ∧ SJ D) := ⟨h, hs⟩
  have e0 := c1 h.h
  have hlt := h.l rb h.t
  clear h hs
  go_enter Try.func26, Try.ntmps26
  go_upto_region 3 with fail
  go_loopw [4, 5] (fun v x wr => ∃ (k : Nat) (m : Int), v = .int .i64 m ∧ x = .int .i64 k ∧ k ≤ n ∧ wr = w ∧ Hid (IsBest (D.take k) m)) (fun _ x _ => n - (intOf x).toNat)
  case atStart => exact ⟨0, 0, rfl, rfl, Nat.zero_le _, rfl, Int.le_refl _, (fun a h => by simp at h), .inl rfl⟩
  case round =>
    obtain ⟨k, m, rfl, rfl, hk, hw, HI⟩ := hrel
    obtain rfl := hw.symm
    clear hw
    by_cases hkn : k < n
    · have k1 : (k : Int) < (n : Int) := by omega
      have k2 : decide ((k : Int) < (n : Int)) = true := decide_eq_true k1
      obtain ⟨a, ha⟩ : ∃ a, D[k]? = some a := ⟨_, List.getElem?_eq_getElem (by have := hnl.out; omega)⟩
      obtain ⟨g, rfl, y0, y1, y2⟩ := rq_cells HQ.out.1 ha
      have HN : Hid (IsBest (D.take (k + 1)) (max m a.pr)) := by
        have e : D.take (k + 1) = D.take k ++ [a] := by rw [List.take_add_one, ha]; rfl
        show IsBest _ _
        rw [e]
        exact HI.out.more
      obtain ⟨aj, an, ap⟩ := a
      simp only [] at y0 y1 y2 HN
      clear ha HI
      go_wp2_with fail
      exact ⟨⟨k + 1, max m ap, rfl, by simp, hkn, trivial, HN.out⟩, by simp [intOf]; omega⟩
    · have k1 : ¬ (k : Int) < (n : Int) := by omega
      have k2 : decide ((k : Int) < (n : Int)) = false := decide_eq_false k1
      have HB : Hid (IsBest D m) := by
        have e1 : D.take k = D := List.take_of_length_le (by have := hnl.out; omega)
        have h2 := HI.out
        rwa [e1] at h2
      obtain ⟨tn, htn⟩ : ∃ tn, tn = (tens D).length := ⟨_, rfl⟩
      have H28 : Hid (Calls Try.prog 28 #[.pointer (some ⟨rb, 0, none⟩)] w fun e w' => ∃ p c', e = .returned (.slice p tn c') ∧ Hid (SR w.heap.size w' (.slice p tn c') (tens D) ∧ Below w.heap.size w w')) := by
        rw [htn]; exact rtens_any HQ.out.1 HQ.out.2 hn
      have htl : tn ≤ 1000 := by have := tens_le D; have := hnl.out; omega
      have HTN : Hid (tn = (tens D).length) := htn
      clear HI htn
      go_upto_region 9 with (go_at_call 28; refine H28.out.mono ?_; rintro e W1 ⟨p0, c0, rfl, h1⟩)
      clear H28 e0 hlt
      go_loopw [6, 8, 9, 10] (fun v x _ _ w4 => ∃ (j l : Nat) (p : Option Addr) (c' : Nat), v = .slice p l c' ∧ x = .int .i64 j ∧ j ≤ tn ∧ l ≤ j ∧ Hid (SR W1.heap.size w4 (.slice p l c') (tops D ((tens D).take j) m) ∧ Below W1.heap.size W1 w4)) (fun _ x _ _ _ => tn - (intOf x).toNat)
      case atStart => exact ⟨0, 0, none, 0, rfl, rfl, Nat.zero_le _, Nat.le_refl _, GRow.nil _ _ _ _ _, Below.refl _ _⟩
      case round =>
        obtain ⟨j, l, p, c', rfl, rfl, hj, hlj, HI⟩ := hrel
        by_cases hjn : j < tn
        · obtain ⟨t, ht⟩ : ∃ t, (tens D)[j]? = some t := ⟨_, List.getElem?_eq_getElem (by have := HTN.out; omega)⟩
          obtain ⟨a, ha, e1, e2, -⟩ := top_of HQ.out.2 (List.mem_of_getElem? ht)
          obtain ⟨g, rfl, hg⟩ := h1.out.1.at sC_len ht
          have y0 := keep1c' HI.out.2 (hg 0 _ rfl)
          simp only [Nat.mul_one, Nat.add_zero] at y0
          have BW : Hid (Below w.heap.size w wr) := h1.out.2.trans (HI.out.2.mono h1.out.2.size)
          have X25 : Hid (Calls Try.prog 25 #[.pointer (some ⟨rb, 0, none⟩), .string ⟨⟨t⟩⟩] wr fun e w' => e = .returned (.tuple #[.agg #[.int .i64 a.job, .string ⟨⟨a.tn⟩⟩, .int .i64 a.pr], .int .i64 0]) ∧ Hid (Below wr.heap.size wr w')) := by
            have := rhead_any (HQ.out.1.below BW.out) (by omega) t
            rw [e2] at this
            exact this
          have hpa : Hid (hdP D t = a.pr) := by show (headD D t).1.pr = _; rw [e2]
          have HT1 : Hid ((tens D).take (j + 1) = (tens D).take j ++ [t]) := by show _ = _; rw [List.take_add_one, ht]; rfl
          have j1 : (j : Int) < (tn : Int) := by omega
          have j2 : decide ((j : Int) < (tn : Int)) = true := decide_eq_true j1
          clear ht ha e1 e2 hg
          obtain ⟨aj, at', ap⟩ := a
          simp only [] at X25 hpa
          go_upto_region 12 with (go_at_call 25; refine X25.out.mono ?_; rintro e w2 ⟨rfl, b2⟩)
          have B3 : Hid (Below wr.heap.size wr (w2.alloc (.cells #[.int .i64 aj, .string ⟨⟨at'⟩⟩, .int .i64 ap] 56))) := b2.out.alloc b2.out.size _
          obtain ⟨-, -, n2⟩ := c3 (new0 (w := w2) (o := .cells #[.int .i64 aj, .string ⟨⟨at'⟩⟩, .int .i64 ap] 56))
          have n3 : w2.heap.size < (w2.alloc (.cells #[.int .i64 aj, .string ⟨⟨at'⟩⟩, .int .i64 ap] 56)).heap.size := by simp
          have y3 : (w2.alloc (.cells #[.int .i64 aj, .string ⟨⟨at'⟩⟩, .int .i64 ap] 56)).cell? ⟨g, j, none⟩ = some (.string ⟨⟨t⟩⟩) := keep1c' B3.out y0
          clear b2 X25 y0
          generalize w2.alloc (.cells #[.int .i64 aj, .string ⟨⟨at'⟩⟩, .int .i64 ap] 56) = W3 at *
          generalize w2.heap.size = bb at *
          have B4 : Hid (Below W1.heap.size W1 W3) := HI.out.2.trans (B3.out.mono HI.out.2.size)
          have R4 : Hid (SR W1.heap.size W3 (.slice p l c') (tops D ((tens D).take j) m)) := HI.out.1.below B3.out
          have B5 : Hid (Below W1.heap.size W1 (W3.alloc (.cells #[.string ⟨⟨t⟩⟩] 9))) := B4.out.alloc B4.out.size _
          have Z5 : Hid (W1.heap.size ≤ (W3.alloc (.cells #[.string ⟨⟨t⟩⟩] 9)).heap.size) := B5.out.size
          have RR : Hid (RowV (W3.alloc (.cells #[.string ⟨⟨t⟩⟩] 9)) W3.heap.size 0 ([t].flatMap sC)) := row_one new0 rfl
          have R5 : Hid (SR W1.heap.size (W3.alloc (.cells #[.string ⟨⟨t⟩⟩] 9)) (.slice p l c') (tops D ((tens D).take j) m)) := R4.out.below ((Below.refl _ W3).alloc (Nat.le_refl _) _)
          have e9 : Hid (l + 1 ≤ maxLen) := by show _ ≤ _; unfold maxLen; omega
          have e8 : Hid ((l + 1) * 16 ≤ 140737488355328) := by show _ ≤ _; omega
          clear HI B3
          have ON := tops_one (D := D) (T := (tens D).take j) (m := m) (t := t)
          rw [hpa.out, ← HT1.out] at ON
          by_cases hge : ap = m
          · have ONK : Hid (tops D ((tens D).take (j + 1)) m = tops D ((tens D).take j) m ++ [t]) := by rw [if_pos hge] at ON; exact ON
            clear ON
            have g2 : (ap == m) = true := by simp [hge]
            have g3 : decide (ap = m) = true := decide_eq_true hge
            subst hge
            go_wp2_with (first
              | (at_builtin; refine append_g (B := W1.heap.size) sC_len sC_one Try.underlying40 info9 rfl (by decide) rfl _ _ rfl p l c' _ rfl R5.out Z5.out W3.heap.size 0 1 1 [t] rfl rfl RR.out e9.out e8.out ?_; intro p3 c3 w3 hr3 hb3)
              | go_in)
            exact ⟨⟨j + 1, l + 1, p3, c3, rfl, by simp, hjn, by omega, by rw [ONK.out]; exact hr3, B5.out.trans hb3⟩, by simp [intOf]; omega⟩
          · have ONK : Hid (tops D ((tens D).take (j + 1)) m = tops D ((tens D).take j) m) := by rw [if_neg hge, List.append_nil] at ON; exact ON
            clear ON
            have g2 : (ap == m) = false := by simp [hge]
            have g3 : decide (ap = m) = false := decide_eq_false hge
            go_wp2_with fail
            exact ⟨⟨j + 1, l, p, c', rfl, by simp, hjn, by omega, by rw [ONK.out]; exact R4.out, B4.out⟩, by simp [intOf]; omega⟩
        · have j1 : ¬ (j : Int) < (tn : Int) := by omega
          have j2 : decide ((j : Int) < (tn : Int)) = false := decide_eq_false j1
          have HF : Hid (IsBest D m ∧ SR w.heap.size wr (.slice p l c') (tops D (tens D) m) ∧ Below w.heap.size w wr) := by
            have e1 : (tens D).take j = tens D := List.take_of_length_le (by have := HTN.out; omega)
            have h2 := HI.out
            rw [e1] at h2
            refine ⟨HB.out, gr_base h2.1 h1.out.2.size, h1.out.2.trans (h2.2.mono h1.out.2.size)⟩
          clear HI
          go_wp2_with fail
          go_ret2
          exact ⟨m, p, l, c', rfl, HF.out⟩
end
end Go.Proofs.Ythlbeofonbbbdaa

namespace Go.Proofs.Ythlbeofonbbbdaa
open Go.RowKit Go.Maps Go.WideMaps

/-- the program's queue and the document's, apart; X: blocks that are kept -/
structure Q2 (w0 w : World) (X : Nat → Option Obj) (pb rb : Nat) (D D' : List J) (N : Nat) : Prop where
  bel : Below w0.heap.size w0 w
  both : ∃ S T, Que w S pb D N ∧ Rfq w T rb D' ∧ (∀ k, S k → w0.heap.size ≤ k ∧ X k = none ∧ ¬ T k) ∧ ∀ k, T k → w0.heap.size ≤ k ∧ X k = none
  kept : ∀ k o, X k = some o → w.heap[k]? = some o
  sm : ∀ y ∈ D, y.tn.length ≤ 281474976710656
theorem kept_lt {w : World} {X : Nat → Option Obj} (h : ∀ k o, X k = some o → w.heap[k]? = some o) {k : Nat} (hk : w.heap.size ≤ k) : X k = none := by
  cases hx : X k with
  | none => rfl
  | some o =>
    have := (Array.getElem?_eq_some_iff.1 (h k o hx)).1
    omega
section
variable {w0 w w' : World} {X : Nat → Option Obj} {pb rb N N' : Nat} {D D' D1 : List J} {S T : Nat → Prop}
theorem Rfq.lt (h : Rfq w T rb D) {k : Nat} (hk : T k) : k < w.heap.size := by
  obtain ⟨q, n, c, h⟩ := h
  exact h.l k hk
theorem Rfq.keep (h : Rfq w T rb D) (e : ∀ k, T k → w'.heap[k]? = w.heap[k]?) (hs : w.heap.size ≤ w'.heap.size) : Rfq w' T rb D := by
  obtain ⟨q, n, c, h⟩ := h
  exact ⟨q, n, c, h.keep e hs⟩
theorem Q2.stepP (b : Below w0.heap.size w0 w) (hk : ∀ k o, X k = some o → w.heap[k]? = some o) (hR : Rfq w T rb D') (hS : ∀ k, S k → w0.heap.size ≤ k ∧ X k = none ∧ ¬ T k) (hT : ∀ k, T k → w0.heap.size ≤ k ∧ X k = none) (hp : PuR w w' S pb D1 N') (hsm : ∀ y ∈ D1, y.tn.length ≤ 281474976710656) : Q2 w0 w' X pb rb D1 D' N' := by
  obtain ⟨S', hl, h1, h2⟩ := hp
  refine ⟨b.trans (h1.below b.size fun k _ q => by have := (hS k q).1; omega), ⟨S', T, hl, hR.keep (fun k q1 => h1.block k (hR.lt q1) fun q => (hS k q).2.2 q1) h1.size, fun k q1 => ?_, hT⟩, fun k o hx => ?_, hsm⟩
  · rcases h2 k q1 with h2 | h2
    · exact hS k h2
    · refine ⟨Nat.le_trans b.size h2, kept_lt hk h2, fun q => ?_⟩
      have := hR.lt q
      omega
  · have q1 := hk k o hx
    refine (h1.block k (Array.getElem?_eq_some_iff.1 q1).1 fun q => ?_).trans q1
    rw [(hS k q).2.1] at hx
    cases hx
theorem Q2.stepR (b : Below w0.heap.size w0 w) (hk : ∀ k o, X k = some o → w.heap[k]? = some o) (hL : Que w S pb D N) (hS : ∀ k, S k → w0.heap.size ≤ k ∧ X k = none ∧ ¬ T k) (hT : ∀ k, T k → w0.heap.size ≤ k ∧ X k = none) (hp : RqR w T rb D1 w') (hsm : ∀ y ∈ D, y.tn.length ≤ 281474976710656) : Q2 w0 w' X pb rb D D1 N := by
  obtain ⟨T', hl, h1, h2⟩ := hp
  refine ⟨b.trans (h1.below b.size fun k _ q => by have := (hT k q).1; omega), ⟨S, T', hL.keepK h1 fun k q1 => (hS k q1).2.2, hl, fun k q1 => ⟨(hS k q1).1, (hS k q1).2.1, fun q => ?_⟩, fun k q1 => ?_⟩, fun k o hx => ?_, hsm⟩
  · rcases h2 k q with h2 | h2
    · exact (hS k q1).2.2 h2
    · have := hL.2 k q1
      omega
  · rcases h2 k q1 with h2 | h2
    · exact hT k h2
    · exact ⟨Nat.le_trans b.size h2, kept_lt hk h2⟩
  · have q1 := hk k o hx
    refine (h1.block k (Array.getElem?_eq_some_iff.1 q1).1 fun q => ?_).trans q1
    rw [(hT k q).2] at hx
    cases hx
theorem Q2.below (h : Q2 w0 w X pb rb D D' N) (b : Below w.heap.size w w') : Q2 w0 w' X pb rb D D' N := by
  obtain ⟨S, T, h1, h2, h3, h4⟩ := h.both
  exact Q2.stepP h.bel h.kept h2 h3 h4 ⟨S, h1.keepB b, Kp.of_below b, fun _ q => .inl q⟩ h.sm
theorem Q2.add {g : Nat} {o : Obj} (h : Q2 w0 w X pb rb D D' N) (b : Below w.heap.size w w') (hg : w'.heap[g]? = some o) (hge : w.heap.size ≤ g) : Q2 w0 w' (XS X g o) pb rb D D' N := by
  obtain ⟨S, T, h1, h2, h3, h4⟩ := h.both
  have h' := h.below b
  have h2' : Rfq w' T rb D' := h2.keep (fun k q => b.block k (h2.lt q)) b.size
  refine ⟨h'.bel, ⟨S, T, h1.keepB b, h2', fun k hk => ⟨(h3 k hk).1, ?_, (h3 k hk).2.2⟩, fun k hk => ⟨(h4 k hk).1, ?_⟩⟩, fun k q hk => ?_, h.sm⟩
  · unfold XS
    rw [if_neg]
    · exact (h3 k hk).2.1
    · have := h1.2 k hk
      omega
  · unfold XS
    rw [if_neg]
    · exact (h4 k hk).2
    · have := h2.lt hk
      omega
  · unfold XS at hk
    split at hk
    · rename_i e
      rw [e, ← Option.some.inj hk]
      exact hg
    · exact h'.kept k q hk
theorem Q2.drop {X' : Nat → Option Obj} (h : Q2 w0 w X pb rb D D' N) (hX : ∀ k o, X' k = some o → X k = some o) : Q2 w0 w X' pb rb D D' N := by
  obtain ⟨S, T, h1, h2, h3, h4⟩ := h.both
  have hn : ∀ k, X k = none → X' k = none := fun k e => by
    cases e2 : X' k with
    | none => rfl
    | some o => rw [hX k o e2] at e; cases e
  exact ⟨h.bel, ⟨S, T, h1, h2, fun k hk => ⟨(h3 k hk).1, hn _ (h3 k hk).2.1, (h3 k hk).2.2⟩, fun k hk => ⟨(h4 k hk).1, hn _ (h4 k hk).2⟩⟩, fun k o e => h.kept k o (hX k o e), h.sm⟩
/-- what is known of the list of a queue -/
theorem que_few (h : Que w S pb D N) : SJ D ∧ NJ D ∧ D.length ≤ 101 := by
  obtain ⟨⟨ow, mw, mh, l, q, h1, h2, h3, h4⟩, h5⟩ := h
  have := jobs_len h1.W.nj h1.W.ok
  exact ⟨h3, nj_perm h1.W.nj h2, by rw [← h2.length_eq, List.length_map]; exact this⟩
theorem Q2.few (h : Q2 w0 w X pb rb D D' N) : SJ D ∧ NJ D ∧ D.length ≤ 101 := by
  obtain ⟨S, T, h1, -⟩ := h.both
  exact que_few h1
theorem q_push (h : Q2 w0 w X pb rb D D' N) (x : J) (hz : x.tn.length ≤ 281474976710656) (hN : N < 1048576) : Calls Try.prog 12 #[.pointer (some ⟨pb, 0, none⟩), .agg #[.int .i64 x.job, .string ⟨⟨x.tn⟩⟩, .int .i64 x.pr]] w fun e w' => e = .returned (.int .i64 (pushD D x).1) ∧ Hid (Q2 w0 w' X pb rb (pushD D x).2 D' (N + 1)) := by
  obtain ⟨S, T, h1, h2, h3, h4⟩ := h.both
  refine (push_any h1 x hz hN).mono fun e w' ⟨he, hp⟩ => ⟨he, Q2.stepP h.bel h.kept h2 h3 h4 hp.out fun y hy => ?_⟩
  unfold pushD at hy
  split at hy
  · split at hy
    · exact h.sm y hy
    · rcases List.mem_cons.1 ((iJ_perm x D).mem_iff.1 hy) with rfl | q
      · exact hz
      · exact h.sm y q
  · exact h.sm y hy
theorem q_rem (h : Q2 w0 w X pb rb D D' N) (x : Int) (hx : wf x) : Calls Try.prog 16 #[.pointer (some ⟨pb, 0, none⟩), .int .i64 x] w fun e w' => e = .returned (.int .i64 (remD D x).1) ∧ Hid (Q2 w0 w' X pb rb (remD D x).2 D' N) := by
  obtain ⟨S, T, h1, h2, h3, h4⟩ := h.both
  refine (rem_any h1 x hx h.sm).mono fun e w' ⟨he, hp⟩ => ⟨he, Q2.stepP h.bel h.kept h2 h3 h4 hp.out fun y hy => ?_⟩
  unfold remD at hy
  split at hy
  · exact h.sm y (mem_dJ.1 hy).1
  · exact h.sm y hy
theorem q_rpush (h : Q2 w0 w X pb rb D D' N) (x : J) (hs : SJ D') (hl : D'.length ≤ 1000) : Calls Try.prog 19 #[.pointer (some ⟨rb, 0, none⟩), .agg #[.int .i64 x.job, .string ⟨⟨x.tn⟩⟩, .int .i64 x.pr]] w fun e w' => e = .returned (.int .i64 (pushD D' x).1) ∧ Hid (Q2 w0 w' X pb rb D (pushD D' x).2 N) := by
  obtain ⟨S, T, h1, ⟨q, n, c, h2⟩, h3, h4⟩ := h.both
  exact (rpush_any h2 hs (by rw [h2.len]; exact hl) x).mono fun e w' ⟨he, hp⟩ => ⟨he, Q2.stepR h.bel h.kept h1 h3 h4 hp.out h.sm⟩
theorem q_rrem (h : Q2 w0 w X pb rb D D' N) (x : Int) (hs : NJ D') (hl : D'.length ≤ 1000) : Calls Try.prog 23 #[.pointer (some ⟨rb, 0, none⟩), .int .i64 x] w fun e w' => e = .returned (.int .i64 (remD D' x).1) ∧ Hid (Q2 w0 w' X pb rb D (remD D' x).2 N) := by
  obtain ⟨S, T, h1, ⟨q, n, c, h2⟩, h3, h4⟩ := h.both
  exact (rrem_any h2 hs (by rw [h2.len]; exact hl) x).mono fun e w' ⟨he, hp⟩ => ⟨he, Q2.stepR h.bel h.kept h1 h3 h4 hp.out h.sm⟩
theorem q_get (h : Q2 w0 w X pb rb D D' N) (x : Int) (hx : wf x) : Calls Try.prog 18 #[.pointer (some ⟨pb, 0, none⟩), .int .i64 x] w fun e w' => e = ansJ (getD D x) ∧ Below w.heap.size w w' := by
  obtain ⟨S, T, h1, h2, h3, h4⟩ := h.both
  exact qget_any h1 x hx
theorem q_rget (h : Q2 w0 w X pb rb D D' N) (hl : D'.length ≤ 1000) (x : Int) : Calls Try.prog 24 #[.pointer (some ⟨rb, 0, none⟩), .int .i64 x] w fun e w' => e = ansJ (getD D' x) ∧ Below w.heap.size w w' := by
  obtain ⟨S, T, h1, ⟨q, n, c, h2⟩, h3, h4⟩ := h.both
  exact rget_any h2 (by rw [h2.len]; omega) x
theorem q_head (h : Q2 w0 w X pb rb D D' N) (t : List UInt8) (ht : t.length ≤ 281474976710656) : Calls Try.prog 15 #[.pointer (some ⟨pb, 0, none⟩), .string ⟨⟨t⟩⟩] w fun e w' => e = ansJ (headD D t) ∧ Below w.heap.size w w' := by
  obtain ⟨S, T, h1, h2, h3, h4⟩ := h.both
  exact qhead_any h1 ⟨⟨t⟩⟩ (by show t.length ≤ _; unfold maxLen; omega)
theorem q_rhead (h : Q2 w0 w X pb rb D D' N) (hl : D'.length ≤ 1000) (t : List UInt8) : Calls Try.prog 25 #[.pointer (some ⟨rb, 0, none⟩), .string ⟨⟨t⟩⟩] w fun e w' => e = ansJ (headD D' t) ∧ Below w.heap.size w w' := by
  obtain ⟨S, T, h1, ⟨q, n, c, h2⟩, h3, h4⟩ := h.both
  exact rhead_any h2 (by rw [h2.len]; omega) t
theorem q_list (h : Q2 w0 w X pb rb D D' N) (t : List UInt8) : Calls Try.prog 14 #[.pointer (some ⟨pb, 0, none⟩), .string ⟨⟨t⟩⟩] w fun e w' => ∃ p c, e = .returned (.slice p (ofT t D).length c) ∧ Hid (WRow w.heap.size w' (.slice p (ofT t D).length c) (ofT t D) ∧ Below w.heap.size w w') := by
  obtain ⟨S, T, h1, h2, h3, h4⟩ := h.both
  exact list_any h1 t
theorem q_rlist (h : Q2 w0 w X pb rb D D' N) (hl : D'.length ≤ 1000) (t : List UInt8) : Calls Try.prog 22 #[.pointer (some ⟨rb, 0, none⟩), .string ⟨⟨t⟩⟩] w fun e w' => ∃ p c, e = .returned (.slice p (ofT t D').length c) ∧ Hid (RRow w.heap.size w' (.slice p (ofT t D').length c) (ofT t D') ∧ Below w.heap.size w w') := by
  obtain ⟨S, T, h1, ⟨q, n, c, h2⟩, h3, h4⟩ := h.both
  exact rlist_any w rb n c q D' t h2.h h2.r (by have := h2.len; show _ ≤ _; omega)
theorem q_tens (h : Q2 w0 w X pb rb D D' N) : Calls Try.prog 13 #[.pointer (some ⟨pb, 0, none⟩)] w fun e w' => ∃ p c, e = .returned (.slice p (tens D).length c) ∧ Hid (SR w.heap.size w' (.slice p (tens D).length c) (tens D) ∧ Below w.heap.size w w') := by
  obtain ⟨S, T, h1, h2, h3, h4⟩ := h.both
  exact tens_any h1
theorem q_rtens (h : Q2 w0 w X pb rb D D' N) (hs : SJ D') (hl : D'.length ≤ 1000) : Calls Try.prog 28 #[.pointer (some ⟨rb, 0, none⟩)] w fun e w' => ∃ p c, e = .returned (.slice p (tens D').length c) ∧ Hid (SR w.heap.size w' (.slice p (tens D').length c) (tens D') ∧ Below w.heap.size w w') := by
  obtain ⟨S, T, h1, ⟨q, n, c, h2⟩, h3, h4⟩ := h.both
  exact rtens_any h2 hs (by rw [h2.len]; exact hl)
theorem q_top (h : Q2 w0 w X pb rb D D' N) : Calls Try.prog 17 #[.pointer (some ⟨pb, 0, none⟩)] w fun e w' => ∃ m p l c, e = .returned (.tuple #[.int .i64 m, .slice p l c]) ∧ Hid (IsBest D m ∧ SR w.heap.size w' (.slice p l c) (tops D (tens D) m) ∧ Below w.heap.size w w') := by
  obtain ⟨S, T, h1, h2, h3, h4⟩ := h.both
  exact top_any h1 h.sm
theorem q_rtop (h : Q2 w0 w X pb rb D D' N) (hs : SJ D') (hl : D'.length ≤ 1000) : Calls Try.prog 26 #[.pointer (some ⟨rb, 0, none⟩)] w fun e w' => ∃ m p l c, e = .returned (.tuple #[.int .i64 m, .slice p l c]) ∧ Hid (IsBest D' m ∧ SR w.heap.size w' (.slice p l c) (tops D' (tens D') m) ∧ Below w.heap.size w w') := by
  obtain ⟨S, T, h1, ⟨q, n, c, h2⟩, h3, h4⟩ := h.both
  exact rtop_any h2 hs (by rw [h2.len]; exact hl)
theorem q_len (h : Q2 w0 w X pb rb D D' N) : Calls Try.prog 11 #[.pointer (some ⟨pb, 0, none⟩)] w fun e w' => e = .returned (.int .i64 D.length) ∧ w' = w := by
  obtain ⟨S, T, h1, h2, h3, h4⟩ := h.both
  exact qlen_any h1
theorem q_box (h : Q2 w0 w X pb rb D D' N) : ∃ q c, w.cell? ⟨rb, 0, none⟩ = some (.slice q D'.length c) ∧ rb < w.heap.size := by
  obtain ⟨S, T, h1, ⟨q, n, c, h2⟩, h3, h4⟩ := h.both
  exact ⟨q, c, by rw [← h2.len]; exact c1 h2.h, h2.l rb h2.t⟩
theorem SR.get {b : Nat} {w : World} {q : Option Addr} {n c : Nat} {L : List (List UInt8)} (h : SR b w (.slice q n c) L) {k : Nat} {s : List UInt8} (hk : L[k]? = some s) : ∃ g, q = some ⟨g, 0, none⟩ ∧ w.cell? ⟨g, k, none⟩ = some (.string ⟨⟨s⟩⟩) := by
  obtain ⟨g, hg, hc⟩ := h.at sC_len hk
  refine ⟨g, hg, ?_⟩
  have := hc 0 _ rfl
  rwa [Nat.mul_one, Nat.add_zero] at this
set_option maxHeartbeats 2000000 in
set_option maxRecDepth 100000 in
theorem rsame_raw (w : World) (n c1' c2' b1 b2 : Nat) (q1 q2 : Option Addr) (L : List (List UInt8)) (h1 : Hid (SR b1 w (.slice q1 n c1') L)) (h2 : Hid (SR b2 w (.slice q2 n c2') L)) (hn : n ≤ 1000000) :
    Calls Try.prog 27 #[.slice q1 n c1', .slice q2 n c2'] w fun e w' => e = .returned (.bool true) ∧ Hid (Below w.heap.size w w') := by
  have hl : Hid (L.length = n) := h1.out.len.symm
  go_enter Try.func27, Try.ntmps27
  go_wp2_with fail
  go_loopw [5] (fun x wr => ∃ k : Nat, x = .int .i64 k ∧ k ≤ n ∧ Hid (Below w.heap.size w wr)) (fun x _ => n - (intOf x).toNat)
  case atStart => exact ⟨0, rfl, Nat.zero_le _, Below.refl _ _⟩
  case round =>
    obtain ⟨k, rfl, hk, HB⟩ := hrel
    by_cases h0 : k = n
    · subst h0
      go_wp2_with fail
      go_ret
      exact ⟨rfl, HB⟩
    · have hlt' : (k : Int) < (n : Int) := by omega
      obtain ⟨a, ha⟩ : ∃ a, L[k]? = some a := ⟨L[k]'(by have := hl.out; omega), List.getElem?_eq_getElem _⟩
      obtain ⟨g1, rfl, l1⟩ := SR.get (h1.out.below HB.out) ha
      obtain ⟨g2, rfl, l2⟩ := SR.get (h2.out.below HB.out) ha
      have HD : Hid (∀ i, Below w.heap.size w (wr.drewN i)) := fun i => below_from HB.out (below_drewN (Below.refl _ wr) i) HB.out.size
      clear ha h1 h2
      go_wp2_with fail
      go_region
      all_goals go_wp2_with fail
      all_goals exact ⟨⟨k + 1, by simp, by omega, HD.out _⟩, by simp only [intOf]; omega⟩
end
end Go.Proofs.Ythlbeofonbbbdaa
