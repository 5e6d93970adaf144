/-
  What a crash leaves of records: the first so many, and an end that begins with no frame.
-/
import Derived.Test.YtplcpjngpkghmaaJu
namespace Go.Proofs.Ytplcpjngpkghmaa
open Go.RowKit Go.Maps

namespace Crc
theorem opened_is {l x y : List UInt8} (h : opened l = some (x, y)) : l = frame x ++ y := by
  unfold opened at h
  split at h
  · cases h
  · rename_i h8
    split at h
    · cases h
    · rename_i hs
      split at h
      · rename_i hc
        have := (opened_same l h8 hs).2 hc
        simp only [Option.some.injEq, Prod.mk.injEq] at h
        obtain ⟨rfl, rfl⟩ := h
        rw [this, List.drop_drop, List.take_append_drop]
      · cases h
theorem fourB_inj {n m : Nat} (hn : n < 4294967296) (hm : m < 4294967296) (h : fourB n = fourB m) : n = m := by
  have h1 := fourN_fourB hn []
  have h2 := fourN_fourB hm []
  rw [h, h2] at h1
  exact h1.symm
/-- frames whose first four bytes are like are as long -/
theorem frame_len4 {x y : List UInt8} {t : List UInt8} {n : Nat} (hn : n ≤ 4096) (hx : x.length ≤ 4096) (h : frame x ++ y = t) (h4 : t.take 4 = fourB n) : x.length = n := by
  have e : (frame x ++ y).take 4 = fourB x.length := by unfold frame; rw [List.append_assoc, List.append_assoc]; rfl
  rw [h, h4] at e
  exact (fourB_inj (by omega) (by omega) e).symm
end Crc
theorem opened_le {l x y : List UInt8} (h : Crc.opened l = some (x, y)) : x.length ≤ 4096 := by
  unfold Crc.opened at h
  split at h
  · cases h
  · split at h
    · cases h
    · rename_i hs
      split at h
      · simp only [Option.some.injEq, Prod.mk.injEq] at h
        obtain ⟨rfl, rfl⟩ := h
        rw [List.length_take]
        omega
      · cases h
/-- the last byte turned -/
def tn (l : List UInt8) : List UInt8 := l.set (l.length - 1) (255 - l.getD (l.length - 1) 0)
theorem tn_length (l : List UInt8) : (tn l).length = l.length := by unfold tn; rw [List.length_set]
theorem tn_append (a b : List UInt8) (h : b ≠ []) : tn (a ++ b) = a ++ tn b := by
  have hb : 0 < b.length := List.length_pos_iff.2 h
  unfold tn
  rw [List.length_append, show a.length + b.length - 1 = a.length + (b.length - 1) by omega, List.set_append_right _ _ (by omega), show a.length + (b.length - 1) - a.length = b.length - 1 by omega]
  congr 2
  rw [List.getD_eq_getElem?_getD, List.getElem?_append_right (by omega), show a.length + (b.length - 1) - a.length = b.length - 1 by omega, List.getD_eq_getElem?_getD]
theorem inv_ne (v : UInt8) : 255 - v ≠ v := by
  intro h
  have := inv_byte v
  rw [h] at this
  omega
theorem tn_one (v : UInt8) : tn [v] = [255 - v] := rfl
theorem tn_snoc (p : List UInt8) (v : UInt8) : tn (p ++ [v]) = p ++ [255 - v] := by rw [tn_append _ _ (by simp), tn_one]
theorem tn_ne (l : List UInt8) (h : l ≠ []) : tn l ≠ l := by
  obtain ⟨p, v, rfl⟩ : ∃ p v, l = p ++ [v] := ⟨l.dropLast, l.getLast h, (List.dropLast_concat_getLast h).symm⟩
  rw [tn_snoc]
  intro e
  have := List.append_cancel_left e
  exact inv_ne v (by simpa using this)
theorem torn_of {t : List UInt8} (hl : t.length ≤ 4088) (h : ∀ x y, Crc.opened t = some (x, y) → False) : Torn t := by
  unfold Torn
  rw [List.take_of_length_le hl]
  cases e : Crc.opened t with
  | none => rfl
  | some p => exact (h p.1 p.2 e).elim
theorem short8 {t : List UInt8} (h : t.length < 8) : Crc.opened t = none := by unfold Crc.opened; rw [if_pos h]
/-- bytes with a frame's head that are fewer than the frame -/
theorem torn_head {t : List UInt8} {n : Nat} (hn : n ≤ 4080) (hl : t.length < n + 8) (h4 : 8 ≤ t.length → t.take 4 = Crc.fourB n) : Torn t := by
  refine torn_of (by omega) fun x y e => ?_
  by_cases h8 : t.length < 8
  · rw [short8 h8] at e; cases e
  · have hi := Crc.opened_is e
    have hx := Crc.frame_len4 (by omega) (opened_le e) hi.symm (h4 (by omega))
    have := congrArg List.length hi
    rw [List.length_append, Crc.frame_length] at this
    omega
theorem take4_frame (r : List UInt8) : (Crc.frame r).take 4 = Crc.fourB r.length := by unfold Crc.frame; rw [List.append_assoc]; rfl
theorem torn_cut (r : List UInt8) (hr : r.length ≤ 4080) (j : Nat) (hj : j < r.length + 8) : Torn ((Crc.frame r).take j) := by
  have hl := Crc.frame_length r
  have h4 := take4_frame r
  generalize Crc.frame r = F at *
  refine torn_head hr (by rw [List.length_take]; omega) fun h8 => ?_
  rw [List.length_take] at h8
  rw [List.take_take, show min 4 j = 4 by omega]
  exact h4
theorem torn_cut_tn (r : List UInt8) (hr : r.length ≤ 4080) (j : Nat) (hj : j < r.length + 8) : Torn (tn ((Crc.frame r).take j)) := by
  have hl := Crc.frame_length r
  have h4 := take4_frame r
  generalize Crc.frame r = F at *
  refine torn_head hr (by rw [tn_length, List.length_take]; omega) fun h8 => ?_
  rw [tn_length, List.length_take] at h8
  unfold tn
  rw [List.take_set_of_le (by rw [List.length_take]; omega), List.take_take, show min 4 j = 4 by omega]
  exact h4
theorem torn_tn (r : List UInt8) (hr : r.length ≤ 4080) : Torn (tn (Crc.frame r)) := by
  have hl := Crc.frame_length r
  refine torn_of (by rw [tn_length, hl]; omega) fun x y e => ?_
  have hi := Crc.opened_is e
  have hx : x.length = r.length := by
    refine Crc.frame_len4 (by omega) (opened_le e) hi.symm ?_
    have h4 := take4_frame r
    generalize Crc.frame r = F at *
    unfold tn
    rw [List.take_set_of_le (by omega)]
    exact h4
  have hy : y = [] := by
    have := congrArg List.length hi
    rw [tn_length, hl, List.length_append, Crc.frame_length] at this
    exact List.eq_nil_of_length_eq_zero (by omega)
  rw [hy, List.append_nil] at hi
  by_cases h0 : r = []
  · subst h0
    have hx0 : x = [] := List.eq_nil_of_length_eq_zero hx
    subst hx0
    exact tn_ne _ (fun e0 => by rw [e0] at hl; simp at hl) hi
  · have e1 : tn (Crc.frame r) = (Crc.fourB r.length ++ Crc.fourB (Crc.crc (Crc.fourB r.length ++ r))) ++ tn r := by
      unfold Crc.frame
      rw [tn_append _ _ h0]
    rw [e1] at hi
    unfold Crc.frame at hi
    rw [hx] at hi
    have hi2 := List.append_inj hi rfl
    have hc := (List.append_inj hi2.1 rfl).2
    have hcc := Crc.fourB_inj (Crc.crc_lt _) (Crc.crc_lt _) hc
    rw [← hi2.2] at hcc
    obtain ⟨p, v, rfl⟩ : ∃ p v, r = p ++ [v] := ⟨r.dropLast, r.getLast h0, (List.dropLast_concat_getLast h0).symm⟩
    rw [tn_snoc] at hcc
    rw [← List.append_assoc, ← List.append_assoc] at hcc
    exact inv_ne v (Crc.crc_turn (b := []) hcc).symm
theorem cut_torn : ∀ (recs : List (List UInt8)), (∀ p ∈ recs, p.length ≤ 4080) → ∀ n, n ≤ (recs.flatMap Crc.frame).length → ∃ k t, k ≤ recs.length ∧ (recs.flatMap Crc.frame).take n = (recs.take k).flatMap Crc.frame ++ t ∧ Torn t
  | [], _, n, _ => ⟨0, [], Nat.le_refl _, by simp, torn_nil⟩
  | r :: rs, h, n, hn => by
    have hl := Crc.frame_length r
    have hr := h r (List.mem_cons_self ..)
    by_cases hlt : n < r.length + 8
    · refine ⟨0, (Crc.frame r).take n, Nat.zero_le _, ?_, torn_cut r hr n hlt⟩
      rw [List.flatMap_cons, List.take_append_of_le_length (by omega)]
      simp
    · rw [List.flatMap_cons, List.length_append, hl] at hn
      obtain ⟨k, t, hk, e, ht⟩ := cut_torn rs (fun p hp => h p (List.mem_cons_of_mem _ hp)) (n - (r.length + 8)) (by omega)
      refine ⟨k + 1, t, by simp; omega, ?_, ht⟩
      rw [List.flatMap_cons, List.take_append, List.take_of_length_le (by omega), hl, e, List.take_succ_cons, List.flatMap_cons, List.append_assoc]
theorem cut_tn : ∀ (recs : List (List UInt8)), (∀ p ∈ recs, p.length ≤ 4080) → ∀ n, 0 < n → n ≤ (recs.flatMap Crc.frame).length → ∃ k t, k ≤ recs.length ∧ tn ((recs.flatMap Crc.frame).take n) = (recs.take k).flatMap Crc.frame ++ t ∧ Torn t
  | [], _, n, h0, hn => by simp at hn; omega
  | r :: rs, h, n, h0, hn => by
    have hl := Crc.frame_length r
    have hr := h r (List.mem_cons_self ..)
    by_cases hlt : n < r.length + 8
    · refine ⟨0, tn ((Crc.frame r).take n), Nat.zero_le _, ?_, torn_cut_tn r hr n hlt⟩
      rw [List.flatMap_cons, List.take_append_of_le_length (by omega)]
      simp
    · rw [List.flatMap_cons, List.length_append, hl] at hn
      by_cases he : n = r.length + 8
      · refine ⟨0, tn (Crc.frame r), Nat.zero_le _, ?_, torn_tn r hr⟩
        rw [List.flatMap_cons, List.take_append_of_le_length (by omega), List.take_of_length_le (by omega)]
        simp
      · obtain ⟨k, t, hk, e, ht⟩ := cut_tn rs (fun p hp => h p (List.mem_cons_of_mem _ hp)) (n - (r.length + 8)) (by omega) (by omega)
        refine ⟨k + 1, t, by simp; omega, ?_, ht⟩
        have hne : (rs.flatMap Crc.frame).take (n - (r.length + 8)) ≠ [] := fun e0 => by
          have := congrArg List.length e0
          rw [List.length_take, List.length_nil] at this
          omega
        rw [List.flatMap_cons, List.take_append, List.take_of_length_le (by omega), hl, tn_append _ _ hne, e, List.take_succ_cons, List.flatMap_cons, List.append_assoc]
/-- the log's file behind a crash -/
theorem crash_log (first s : Nat) (recs : List (List UInt8)) (h : ∀ p ∈ recs, p.length ≤ 4080) (x : UInt8) :
    ∃ k t, s ≤ k ∧ k ≤ max s recs.length ∧ crashB (encB first recs) (encB first (recs.take s)).length x = encB first (recs.take k) ++ t ∧ Torn t := by
  have e : encB first recs = encB first (recs.take s) ++ (recs.drop s).flatMap Crc.frame := by
    have := encB_split first recs [] s
    rwa [List.append_nil, List.append_nil] at this
  have hd : ∀ p ∈ recs.drop s, p.length ≤ 4080 := fun p hp => h p (List.mem_of_mem_drop hp)
  have join : ∀ k, encB first (recs.take s) ++ ((recs.drop s).take k).flatMap Crc.frame = encB first (recs.take (s + k)) := fun k => by
    unfold encB
    rw [List.append_assoc, ← List.flatMap_append, ← List.take_add]
  unfold crashB
  generalize hsy : encB first (recs.take s) = B at *
  generalize hT : (recs.drop s).flatMap Crc.frame = T at *
  rw [e, List.length_append, show B.length + T.length - B.length + 1 = T.length + 1 by omega]
  have hkp := Nat.mod_lt x.toNat (show 0 < T.length + 1 by omega)
  generalize x.toNat % (T.length + 1) = n at *
  have htk : (B ++ T).take (B.length + n) = B ++ T.take n := by
    rw [List.take_append, List.take_of_length_le (by omega), show B.length + n - B.length = n by omega]
  rw [htk]
  split
  · rename_i hx
    have hn0 : 0 < n := hx.2
    have hTn : (T.take n).length = n := by rw [List.length_take]; omega
    have hset : (B ++ T.take n).set (B.length + n - 1) (255 - (B ++ T).getD (B.length + n - 1) 0) = B ++ tn (T.take n) := by
      rw [List.set_append_right _ _ (by omega), show B.length + n - 1 - B.length = n - 1 by omega]
      unfold tn
      rw [hTn]
      congr 3
      rw [List.getD_eq_getElem?_getD, List.getElem?_append_right (by omega), show B.length + n - 1 - B.length = n - 1 by omega, List.getD_eq_getElem?_getD, List.getElem?_take, if_pos (by omega)]
    rw [hset]
    obtain ⟨k, t, hk, e2, ht⟩ := cut_tn (recs.drop s) hd n hn0 (by rw [hT]; omega)
    rw [hT] at e2
    refine ⟨s + k, t, by omega, by rw [List.length_drop] at hk; omega, ?_, ht⟩
    rw [e2, ← List.append_assoc, join k]
  · obtain ⟨k, t, hk, e2, ht⟩ := cut_torn (recs.drop s) hd n (by rw [hT]; omega)
    rw [hT] at e2
    refine ⟨s + k, t, by omega, by rw [List.length_drop] at hk; omega, ?_, ht⟩
    rw [e2, ← List.append_assoc, join k]
end Go.Proofs.Ytplcpjngpkghmaa
