/-
  The checkpoint's decode, and Load.
-/
import Derived.Test.YtoiopplhphllhaaSi
import Derived.Test.YtoiopplhphllhaaSe
namespace Go.Proofs.Ytoiopplhphllhaa
open Go.RowKit Go.Maps

set_option maxHeartbeats 1000000 in
theorem decode_at (v1 : Value) (n : Int) (w : World) (R : Value → World → Prop) (H1 : Hid (Calls Try.prog 52 #[v1] w fun e w' => ∃ v, e = .returned (.tuple #[.int .i64 n, v, .bool true]) ∧ R v w')) (H2 : Hid (∀ w, Calls Try.prog 23 #[.int .i64 n] w fun e w' => e = .returned (.bool true) ∧ w' = w))
    (H3 : Hid (∀ v w, R v w → Calls Try.prog 25 #[v] w fun e w' => e = .returned (.bool false) ∧ w' = w)) :
    Calls Try.prog 41 #[v1] w fun e w' => ∃ v, e = .returned (.tuple #[.int .i64 n, v, .bool true]) ∧ R v w' := by
  go_enter Try.func41, Try.ntmps41
  go_wp2_with (go_at_call 52; refine H1.out.mono ?_)
  rintro e w1 ⟨v, rfl, hR⟩
  have G3 : Hid (Calls Try.prog 25 #[v] w1 fun e w' => e = .returned (.bool false) ∧ w' = w1) := H3.out v w1 hR
  have HR : Hid (R v w1) := hR
  clear hR
  go_wp2_with (first
    | (go_at_call 23; refine (H2.out _).mono ?_; rintro e w2 ⟨rfl, rfl⟩)
    | (go_at_call 25; refine G3.out.mono ?_; rintro e w2 ⟨rfl, rfl⟩))
  go_ret3
  exact ⟨v, rfl, HR.out⟩
theorem fitE_parts {n : Int} {ps : List (List UInt8)} (h : fitE n ps = 0) : okNum n = true ∧ longP ps = false ∧ manyP ps = false := by
  unfold fitE at h
  split at h
  · cases h
  · rename_i h1
    split at h
    · cases h
    · rename_i h2
      split at h
      · cases h
      · rename_i h3
        exact ⟨by simpa using h1, by simpa using h2, by simpa using h3⟩
theorem longP_all {ps : List (List UInt8)} (h : longP ps = false) : ∀ p ∈ ps, p.length ≤ 4096 := by
  intro p hp
  unfold longP at h
  simpa using List.any_eq_false.1 h p hp
theorem decode_any (n : Nat) (ps : List (List UInt8)) (hf : fitE n ps = 0) (v1 : Value) (w : World) (ho : Own w 0 v1 (encB n ps)) :
    Calls Try.prog 41 #[v1] w fun e w' => ∃ v, e = .returned (.tuple #[.int .i64 n, v, .bool true]) ∧ ∃ l, PsOwn w' w.heap.size v l ∧ l.map RC.b = ps ∧ Below w.heap.size w w' := by
  obtain ⟨h1, h2, h3⟩ := fitE_parts hf
  have h3' := h3
  unfold manyP at h3'
  simp only [Bool.or_eq_false_iff, decide_eq_false_iff_not] at h3'
  have h1' := h1
  unfold okNum at h1'
  simp only [Bool.and_eq_true, decide_eq_true_eq] at h1'
  have hlen : (encB n ps).length = 24 + sumL ps + 8 * ps.length := encT_len _ _ _
  obtain ⟨g, c, rfl, -, -⟩ := ho.posn (by omega)
  have hcap := own_cap ho
  have hrow : Row w g 0 (encB n ps) := by
    obtain ⟨hL, -, -⟩ := own_parts ho
    rcases hL with h0 | ⟨g', o', e, hr⟩
    · rw [h0] at hlen; simp at hlen; omega
    · cases e; exact hr
  refine decode_at _ n w (fun v w' => ∃ l, PsOwn w' w.heap.size v l ∧ l.map RC.b = ps ∧ Below w.heap.size w w') ?_ (fun w => by have := numbered_any n w; rw [h1] at this; exact this) ?_
  · refine (unpack_any n ps (by omega) (by omega) (longP_all h2) g 0 c _ w rfl hrow hcap.1 hcap.2).mono ?_
    rintro e w' ⟨v, l, rfl, h4, h5, h6⟩
    exact ⟨v, rfl, l, h4, h5, h6⟩
  · rintro v w' ⟨l, h4, h5, h6⟩
    obtain ⟨q, c', rfl⟩ := sl_own h4.row
    have := tooMany_any l q c' l.length w' rfl (by rw [h5]; exact h2) h4.pcs.1
    rw [h5, h3] at this
    exact this

/-- what checkpoint a disk has -/
def Holds (D : DK) : Option (Nat × List (List UInt8)) → Prop
  | none => fnd Fil.nm nmL D.fs = none
  | some (n, ps) => fitE n ps = 0 ∧ ∃ f, fnd Fil.nm nmL D.fs = some f ∧ f.b = encB n ps ∧ f.sy = f.b.length
def ldE (D : DK) (s : Option (Nat × List (List UInt8))) : Int := if D.down = true then 11 else match s with | none => 3 | some _ => 0
set_option maxHeartbeats 400000 in
theorem load_no (w : World) (p : Value) (c : Int) (hc : (c != 0) = true) (R : World → Prop) (H : Hid (Calls Try.prog 19 #[p, .string ⟨#[115, 110, 97, 112]⟩] w fun e w' => ∃ v, e = .returned (.tuple #[v, .int .i64 c]) ∧ R w')) :
    Calls Try.prog 21 #[p] w fun e w' => e = .returned (.tuple #[.int .i64 0, .slice none 0 0, .int .i64 c]) ∧ R w' := by
  go_enter Try.func21, Try.ntmps21
  go_wp2_with (go_at_call 19; refine H.out.mono ?_)
  rintro e w1 ⟨v, rfl, h1⟩
  go_wp2_with fail
  go_ret3
  exact ⟨rfl, h1⟩
set_option maxHeartbeats 400000 in
theorem load_yes (w : World) (p : Value) (n : Int) (R1 R2 : Value → World → Prop) (H : Hid (Calls Try.prog 19 #[p, .string ⟨#[115, 110, 97, 112]⟩] w fun e w' => ∃ v, e = .returned (.tuple #[v, .int .i64 0]) ∧ R1 v w')) (H2 : Hid (∀ v w, R1 v w → Calls Try.prog 41 #[v] w fun e w' => ∃ v, e = .returned (.tuple #[.int .i64 n, v, .bool true]) ∧ R2 v w')) :
    Calls Try.prog 21 #[p] w fun e w' => ∃ v, e = .returned (.tuple #[.int .i64 n, v, .int .i64 0]) ∧ R2 v w' := by
  go_enter Try.func21, Try.ntmps21
  go_wp2_with (go_at_call 19; refine H.out.mono ?_)
  rintro e w1 ⟨v, rfl, h1⟩
  have G2 : Hid (Calls Try.prog 41 #[v] w1 fun e w' => ∃ v, e = .returned (.tuple #[.int .i64 n, v, .bool true]) ∧ R2 v w') := H2.out v w1 h1
  clear h1
  go_wp2_with (go_at_call 41; refine G2.out.mono ?_)
  rintro e w2 ⟨v2, rfl, h2⟩
  go_wp2_with fail
  go_ret3
  exact ⟨v2, rfl, h2⟩
theorem load_nil (w : World) : Calls Try.prog 21 #[.pointer none] w fun e w' => e = .returned (.tuple #[.int .i64 0, .slice none 0 0, .int .i64 11]) ∧ w' = w := by
  refine load_no w _ 11 rfl _ ((read_nil w ⟨⟨nmL⟩⟩).mono ?_)
  rintro e w' ⟨rfl, rfl⟩
  exact ⟨_, rfl, rfl⟩
theorem load_any {w : World} {tg : Nat → Tg} {pb : Nat} {D : DK} (h : Dsk w tg pb D) (s : Option (Nat × List (List UInt8))) (hs : Holds D s) :
    Calls Try.prog 21 #[.pointer (some ⟨pb, 0, none⟩)] w fun e w' => ∃ (n : Nat) (v : Value), e = .returned (.tuple #[.int .i64 n, v, .int .i64 (ldE D s)]) ∧ ∃ l, PsOwn w' w.heap.size v l ∧ Below w.heap.size w w' ∧ (ldE D s = 0 → s = some (n, l.map RC.b)) := by
  have hr := read_any h ⟨⟨nmL⟩⟩ (by decide)
  have hr : Calls Try.prog 19 #[.pointer (some ⟨pb, 0, none⟩), .string ⟨#[115, 110, 97, 112]⟩] w fun e w' => ∃ v, e = .returned (.tuple #[v, .int .i64 (readD D nmL).1]) ∧ Own w' w.heap.size v (readD D nmL).2 ∧ Below w.heap.size w w' := hr
  unfold readD at hr
  unfold ldE
  by_cases hd : D.down = true
  · rw [if_pos hd]
    rw [if_pos hd] at hr
    refine (load_no w _ 11 rfl (fun w' => Below w.heap.size w w') (hr.mono ?_)).mono ?_
    · rintro e w' ⟨v, rfl, _, b⟩
      exact ⟨v, rfl, b⟩
    · rintro e w' ⟨rfl, b⟩
      exact ⟨0, _, rfl, [], PsOwn.nil _ _, b, nofun⟩
  · rw [if_neg hd]
    rw [if_neg hd] at hr
    cases s with
    | none =>
      have hn : fnd Fil.nm nmL D.fs = none := hs
      rw [hn] at hr
      refine (load_no w _ 3 rfl (fun w' => Below w.heap.size w w') (hr.mono ?_)).mono ?_
      · rintro e w' ⟨v, rfl, _, b⟩
        exact ⟨v, rfl, b⟩
      · rintro e w' ⟨rfl, b⟩
        exact ⟨0, _, rfl, [], PsOwn.nil _ _, b, nofun⟩
    | some np =>
      obtain ⟨n, ps⟩ := np
      obtain ⟨hf, f, hfd, hb, hsy⟩ := hs
      rw [hfd] at hr
      simp only [hb] at hr
      refine (load_yes w _ n (fun v w' => Own w' w.heap.size v (encB n ps) ∧ Below w.heap.size w w') (fun v w' => ∃ l, PsOwn w' w.heap.size v l ∧ l.map RC.b = ps ∧ Below w.heap.size w w') (hr.mono ?_) ?_).mono ?_
      · rintro e w' ⟨v, rfl, o, b⟩
        exact ⟨v, rfl, o, b⟩
      · rintro v w' ⟨o, b⟩
        refine (decode_any n ps hf v w' (o.low (Nat.zero_le _))).mono ?_
        rintro e w2 ⟨v2, rfl, l, h1, h2, h3⟩
        exact ⟨v2, rfl, l, h1.low b.size, h2, below_from b h3 b.size⟩
      · rintro e w' ⟨v, rfl, l, h1, h2, h3⟩
        exact ⟨n, v, rfl, l, h1, h3, fun _ => by rw [h2]⟩
end Go.Proofs.Ytoiopplhphllhaa
