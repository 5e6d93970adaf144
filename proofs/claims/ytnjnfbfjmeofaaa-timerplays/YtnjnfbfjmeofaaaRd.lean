/-
  The reference's Due.
-/
import Derived.Test.YtnjnfbfjmeofaaaRb
namespace Go.Proofs.Ytnjnfbfjmeofaaa
open Go.RowKit Go.Maps Go.WideMaps

theorem pw_at (now : Int) : ∀ {l : List Al} {i : Nat}, i ≤ l.length → (∀ j, j < i → (gt l j).at' ≤ now) → (i = l.length ∨ now < (gt l i).at') → pw now l = l.take i ∧ dw now l = l.drop i
  | [], i, h, _, _ => by
    have : i = 0 := by simpa using h
    subst this
    exact ⟨rfl, rfl⟩
  | a :: r, 0, _, _, h => by
    have h1 : now < a.at' := by
      rcases h with h | h
      · simp at h
      · exact h
    have e : decide (a.at' ≤ now) = false := decide_eq_false (by omega)
    simp [pw, dw, e]
  | a :: r, i + 1, hi, hj, h => by
    have h1 : a.at' ≤ now := hj 0 (by omega)
    have e : decide (a.at' ≤ now) = true := decide_eq_true h1
    have ih := pw_at now (l := r) (i := i) (by simpa using hi) (fun j q => hj (j + 1) (by omega)) (by
      rcases h with h | h
      · exact .inl (by simpa using h)
      · exact .inr h)
    unfold pw dw at ih ⊢
    rw [List.takeWhile_cons, List.dropWhile_cons, e, List.take_succ_cons, List.drop_succ_cons, if_pos rfl, if_pos rfl, ih.1, ih.2]
    exact ⟨rfl, rfl⟩
theorem nsl_h : ∀ w, (Instr.sliceAt 27 (.slice none 0 0) none (some (.int .i64 0)) none).run Try.prog w = .ok (.slice none 0 0) w := fun w => by kernel_rfl
theorem nsl_l : ∀ w, (Instr.sliceAt 27 (.slice none 0 0) (some (.int .i64 0)) none none).run Try.prog w = .ok (.slice none 0 0) w := fun w => by kernel_rfl
/-- behind Due -/
structure RD (w w' : World) (rb : Nat) (v v' u : Value) (T l : List Al) : Prop where
  u : w'.ownsRow w.heap.size 47 2 u T.length (flat T)
  g : Rg2 w w' rb v v' l
  n : v'.ownBlock = none ∨ v'.ownBlock = v.ownBlock
set_option maxHeartbeats 2000000 in
set_option maxRecDepth 100000 in
theorem rdue_R {w : World} {rb : Nat} {v : Value} {l : List Al} (h : Hid (Rf w rb v l)) (hl : l.length ≤ 1024) (now : Int) :
    Calls Try.prog 15 #[.pointer (some ⟨rb, 0, none⟩), .int .i64 now] w fun e w' => ∃ u v', e = .returned u ∧ RD w w' rb v v' u (pw now l) (dw now l) := by
  obtain ⟨q, c, ev⟩ := h.out.r.shape
  have c0 := h.out.c
  rw [ev] at c0
  have hl' : (l.length : Int) ≤ 1024 := by omega
  go_enter Try.func15, Try.ntmps15
  go_wp2_with fail
  go_loopw [5] (fun t wr => ∃ i : Nat, t = .int .i64 i ∧ wr = w ∧ Hid (i ≤ l.length ∧ ∀ j, j < i → (gt l j).at' ≤ now)) (fun t _ => l.length - (intOf t).toNat)
  case atStart => exact ⟨0, rfl, rfl, Nat.zero_le _, fun j q => by omega⟩
  case round =>
    obtain ⟨i, rfl, rfl, HI⟩ := hrel
    by_cases hgo : i < l.length ∧ (gt l i).at' ≤ now
    · obtain ⟨hi, hle⟩ := hgo
      have hi' : (i : Int) < (l.length : Int) := by omega
      obtain ⟨g, o, c', e1, hL⟩ := h.out.r.row (by omega)
      rw [ev] at e1
      have eqa : q = some ⟨g, o, none⟩ ∧ c = c' := by simpa using e1
      obtain ⟨rfl, rfl⟩ := eqa
      have x1 := hL.c1 (gt_some hi)
      have hle' : decide ((gt l i).at' ≤ now) = true := decide_eq_true hle
      have HN : Hid (i + 1 ≤ l.length ∧ ∀ j, j < i + 1 → (gt l j).at' ≤ now) := ⟨by omega, fun j hj => by
        by_cases q : j = i
        · rw [q]; exact hle
        · exact HI.out.2 j (by omega)⟩
      clear hi HI hL e1 hle
      go_wp2_with fail
      have := HN.out.1
      refine ⟨⟨i + 1, by simp, by first | rfl | trivial, HN.out⟩, ?_⟩
      simp [intOf]
      omega
    · have hpd := pw_at now (l := l) (i := i) HI.out.1 HI.out.2 (by have := HI.out.1; by_cases q : i = l.length; exact .inl q; exact .inr (by omega))
      have HPD : Hid (pw now l = l.take i ∧ dw now l = l.drop i ∧ i ≤ l.length) := ⟨hpd.1, hpd.2, HI.out.1⟩
      rcases h.out.r with ⟨e1, e2⟩ | ⟨g, o, c', e1, hL⟩
      · rw [ev] at e1
        subst e2
        have eqa : q = none ∧ c = 0 := by
          simp only [Value.slice.injEq] at e1
          exact ⟨e1.1, e1.2.2⟩
        obtain ⟨rfl, rfl⟩ := eqa
        have hi0 : i = 0 := by have := HI.out.1; simpa using this
        subst hi0
        have s1 := nsl_h
        have s2 := nsl_l
        have fb := fz h.out.b 0
        have HE : Hid (∃ v', RD wr (wr.setCell ⟨rb, 0, none⟩ (.slice none 0 0)) rb v v' (.slice none 0 0) (pw now []) (dw now [])) := by
          refine ⟨.slice none 0 0, World.ownsRow_nil _ _ _ _, ⟨⟨?_, .inl ⟨rfl, rfl⟩⟩, Kp.of_set _ _ _ (.inl rfl), fun k q => ?_⟩, .inl rfl⟩
          · have := setB h.out.b (i := 0) (.slice none 0 0)
            exact this
          · rcases q with q | q
            · exact .inl (.inl q)
            · cases q
        clear HI hgo hpd HPD
        obtain ⟨i0, hi, _⟩ := info_parts info47
        have HI0 : Hid (Try.prog.info? 47 = some i0) := hi
        clear hi
        go_wp2_with (at_builtin; refine wpList_append_own_none (P := Try.prog) (w := wr) rfl _ _ 27 rfl 0 47 i0 2 Try.underlying27 HI0.out (.slice none 0 0) 0 [] rfl (World.ownsRow_nil _ _ _ _) rfl ?_)
        go_ret
        obtain ⟨v2, h5⟩ := HE.out
        first | exact ⟨_, v2, rfl, h5⟩ | exact ⟨_, rfl, v2, h5⟩
      · rw [ev] at e1
        have eqa : q = some ⟨g, o, none⟩ ∧ c = c' := by simpa using e1
        obtain ⟨rfl, rfl⟩ := eqa
        clear e1
        have HLI : Hid (Lie wr g o c l) := hL
        have hin := HPD.out.2.2
        have hsl := rsl_h g o l.length c i (by have := hL.le; omega)
        have hsl2 := rsl_l g o l.length c i hin hL.le
        have R1 : Hid (RowV wr g o (flat (l.take i))) := fun j u hu => by
          refine HLI.out.rowV j u ?_
          have q : flat l = flat (l.take i) ++ flat (l.drop i) := by rw [← flat_append, List.take_append_drop]
          rw [q, List.getElem?_append_left (List.getElem?_eq_some_iff.1 hu).1]
          exact hu
        have L1 : Hid ((flat (l.take i)).length = i * 2) := by
          unfold Hid
          rw [flat_length, List.length_take, Nat.min_eq_left hin]
        have HX : Hid (∀ v' w3, w3.ownsRow wr.heap.size 47 2 v' (0 + i) ([] ++ flat (l.take i)) → wr.grownBy w3 (Value.slice none 0 0).ownBlock → w3.cell? ⟨rb, 0, none⟩ = some (.slice (some ⟨g, o, none⟩) l.length c) ∧ w3.frozen? ⟨rb, 0, none⟩ = false ∧ ∃ v2, RD wr (w3.setCell ⟨rb, 0, none⟩ (.slice (some ⟨g, cutO o c i, none⟩) (l.length - i) (c - i))) rb v v2 v' (pw now l) (dw now l)) := fun v' w3 h1 h2 => by
          have B3 : Below wr.heap.size wr w3 := ⟨h2.os, h2.tape, h2.output, h2.size, fun j hj => h2.block j hj (by intro q; cases q)⟩
          have hrb : rb < wr.heap.size := (Array.getElem?_eq_some_iff.1 h.out.b).1
          have hb3 := (B3.block rb hrb).trans h.out.b
          rw [List.nil_append, Nat.zero_add] at h1
          refine ⟨by rw [cell_of hb3, ev]; rfl, fz hb3 0, .slice (some ⟨g, cutO o c i, none⟩) (l.length - i) (c - i), ?_, ⟨⟨setB hb3 _, .inr ⟨g, cutO o c i, c - i, ?_, ?_⟩⟩, ?_, fun k q => ?_⟩, .inr (by rw [ev]; rfl)⟩
          · rw [HPD.out.1, List.length_take, Nat.min_eq_left HPD.out.2.2]
            refine ownsKeep h1 fun j q => Below.heap_setCell _ _ _ _ ?_
            have := (World.ownsRow.lt h1 j q).1
            show j ≠ rb
            omega
          · rw [HPD.out.2.1, List.length_drop]
          · rw [HPD.out.2.1]
            have hgr : g ≠ rb := fun q => h.out.r.ne h.out.b (by decide) (by rw [ev, ← q]; rfl)
            exact ((HLI.out.keep (B3.block g HLI.out.lt)).drop i HPD.out.2.2).keep (Below.heap_setCell _ _ _ _ hgr)
          · exact (Kp.of_below B3).trans (Kp.of_set (S := Fr rb v) w3 ⟨rb, 0, none⟩ _ (.inl rfl)) fun _ _ h => h
          · rcases q with q | q
            · exact .inl (.inl q)
            · exact .inl (.inr (by rw [ev]; exact q))
        clear ev
        by_cases hi : i < l.length
        · have hi' : (i : Int) < (l.length : Int) := by omega
          have x1 := hL.c1 (gt_some hi)
          have hle' : decide ((gt l i).at' ≤ now) = false := decide_eq_false fun q => hgo ⟨hi, q⟩
          have hin' : (i : Int) ≤ 1024 := by omega
          clear hi HI hL hgo hpd
          go_upto_region 6 with (at_builtin; refine append_vals (w := wr) Try.underlying27 info47 rfl (by decide) rfl _ _ rfl wr.heap.size (.slice none 0 0) 0 [] rfl (World.ownsRow_nil _ _ _ _) g o c i (flat (l.take i)) rfl L1.out R1.out (flat_one' _) (by have := HPD.out.2.2; unfold maxLen; omega) (by have := HPD.out.2.2; omega) (Nat.le_refl _) ?_; intro v' w3 h1 h2)
          obtain ⟨hc3, hf3, HE⟩ := HX.out _ _ h1 h2
          obtain ⟨s1', s2', s3', rfl⟩ := sl_own h1
          have HE' : Hid (∃ v2, RD wr (w3.setCell ⟨rb, 0, none⟩ (.slice (some ⟨g, cutO o c i, none⟩) (l.length - i) (c - i))) rb v v2 (.slice s1' s2' s3') (pw now l) (dw now l)) := HE
          clear h1 h2 c0 HE
          go_wp2_with fail
          go_ret
          obtain ⟨v2, h5⟩ := HE'.out
          first | exact ⟨_, v2, rfl, h5⟩ | exact ⟨_, rfl, v2, h5⟩
        · have hi' : ¬ (i : Int) < (l.length : Int) := by omega
          have hi2 : decide ((i : Int) < (l.length : Int)) = false := decide_eq_false hi'
          have hin' : (i : Int) ≤ 1024 := by omega
          clear hi HI hL hgo hpd
          go_upto_region 6 with (at_builtin; refine append_vals (w := wr) Try.underlying27 info47 rfl (by decide) rfl _ _ rfl wr.heap.size (.slice none 0 0) 0 [] rfl (World.ownsRow_nil _ _ _ _) g o c i (flat (l.take i)) rfl L1.out R1.out (flat_one' _) (by have := HPD.out.2.2; unfold maxLen; omega) (by have := HPD.out.2.2; omega) (Nat.le_refl _) ?_; intro v' w3 h1 h2)
          obtain ⟨hc3, hf3, HE⟩ := HX.out _ _ h1 h2
          obtain ⟨s1', s2', s3', rfl⟩ := sl_own h1
          have HE' : Hid (∃ v2, RD wr (w3.setCell ⟨rb, 0, none⟩ (.slice (some ⟨g, cutO o c i, none⟩) (l.length - i) (c - i))) rb v v2 (.slice s1' s2' s3') (pw now l) (dw now l)) := HE
          clear h1 h2 c0 HE
          go_wp2_with fail
          go_ret
          obtain ⟨v2, h5⟩ := HE'.out
          first | exact ⟨_, v2, rfl, h5⟩ | exact ⟨_, rfl, v2, h5⟩
end Go.Proofs.Ytnjnfbfjmeofaaa
