/-
  The checkpoint's numbered, tooLong, tooMany; the reference's Fits.
-/
import Derived.Test.YtoiopplhphllhaaSa
namespace Go.Proofs.Ytoiopplhphllhaa
open Go.RowKit Go.Maps

set_option maxHeartbeats 400000 in
theorem numbered_yes (n : Int) (h0 : 0 ≤ n) (h1 : n ≤ 4611686018427387904) (w : World) : Calls Try.prog 23 #[.int .i64 n] w fun e w' => e = .returned (.bool true) ∧ w' = w := by
  go_enter Try.func23, Try.ntmps23
  go_wp2_with fail
  go_ret
  exact ⟨rfl, rfl⟩
set_option maxHeartbeats 400000 in
theorem numbered_no (n : Int) (h : n < 0 ∨ 0 ≤ n ∧ ¬ n ≤ 4611686018427387904) (w : World) : Calls Try.prog 23 #[.int .i64 n] w fun e w' => e = .returned (.bool false) ∧ w' = w := by
  rcases h with h | ⟨h0, h⟩
  all_goals go_enter Try.func23, Try.ntmps23
  all_goals go_wp2_with fail
  all_goals go_ret
  all_goals exact ⟨rfl, rfl⟩
def okNum (n : Int) : Bool := decide (0 ≤ n) && decide (n ≤ 4611686018427387904)
theorem numbered_any (n : Int) (w : World) : Calls Try.prog 23 #[.int .i64 n] w fun e w' => e = .returned (.bool (okNum n)) ∧ w' = w := by
  unfold okNum
  by_cases h0 : 0 ≤ n
  · by_cases h1 : n ≤ 4611686018427387904
    · rw [decide_eq_true h0, decide_eq_true h1]; exact numbered_yes n h0 h1 w
    · rw [decide_eq_true h0, decide_eq_false h1]; exact numbered_no n (.inr ⟨h0, by omega⟩) w
  · rw [decide_eq_false h0]; exact numbered_no n (.inl (by omega)) w

def longP (ps : List (List UInt8)) : Bool := ps.any fun p => decide (4096 < p.length)
theorem any_take {l : List (List UInt8)} {k : Nat} {p : List UInt8} (h : l[k]? = some p) (h0 : longP (l.take k) = false) (hp : p.length ≤ 4096) : longP (l.take (k + 1)) = false := by
  obtain ⟨hk, rfl⟩ := List.getElem?_eq_some_iff.1 h
  rw [List.take_succ_eq_append_getElem hk]
  unfold longP at *
  rw [List.any_append, h0]
  simpa using hp
theorem any_yes {l : List (List UInt8)} {k : Nat} {p : List UInt8} (h : l[k]? = some p) (hp : 4096 < p.length) : longP l = true := by
  unfold longP
  exact List.any_eq_true.2 ⟨p, List.mem_of_getElem? h, decide_eq_true hp⟩
theorem sum_snoc {l : List (List UInt8)} {k : Nat} {p : List UInt8} (h : l[k]? = some p) : sumL (l.take (k + 1)) = sumL (l.take k) + p.length := by
  obtain ⟨hk, rfl⟩ := List.getElem?_eq_some_iff.1 h
  rw [List.take_succ_eq_append_getElem hk]
  unfold sumL
  rw [List.map_append, List.sum_append]
  simp
/-- a piece in its row -/
theorem Pcs.at {w : World} {q : Option Addr} {l : List RC} (h : Pcs w q l) {k : Nat} (hk : k < l.length) : ∃ r g o, l[k]? = some r ∧ q = some ⟨g, o, none⟩ ∧ w.cell? ⟨g, o + k, none⟩ = some (.slice r.a r.b.length r.c) := by
  have hr0 : l[k]? = some l[k] := List.getElem?_eq_getElem _
  have hne : l ≠ [] := by rintro rfl; simp at hk
  obtain ⟨g, o, rfl, hrow⟩ := h.row.resolve_left hne
  exact ⟨l[k], g, o, hr0, rfl, hrow k l[k].v (by rw [List.getElem?_map, hr0]; rfl)⟩
theorem Pcs.heap {w w' : World} {q : Option Addr} {l : List RC} (h : Pcs w q l) (e : w'.heap = w.heap) : Pcs w' q l := by
  refine ⟨?_, fun r hr => ⟨lies_heap (h.each r hr).1 e, (h.each r hr).2⟩⟩
  rcases h.row with h0 | ⟨g, o, e1, hr⟩
  · exact .inl h0
  · exact .inr ⟨g, o, e1, fun k u hu => (World.cell?_of_block (a := ⟨g, o + k, none⟩) (by rw [e])).trans (hr k u hu)⟩

set_option maxHeartbeats 1000000 in
theorem tooLong_any (l : List RC) (q : Option Addr) (c m : Nat) (w : World) (hl : Hid (l.length = m)) (hm : m < 1152921504606846976) (hP : Hid (Pcs w q l)) :
    Calls Try.prog 24 #[.slice q m c] w fun e w' => e = .returned (.bool (longP (l.map RC.b))) ∧ w' = w := by
  go_enter Try.func24, Try.ntmps24
  go_wp2_with fail
  go_loopw [7] (fun i wr => ∃ k : Nat, k ≤ m ∧ i = .int .i64 k ∧ longP ((l.map RC.b).take k) = false ∧ wr = w) (fun i _ => m - (intOf i).toNat)
  case atStart => exact ⟨0, Nat.zero_le _, rfl, rfl, rfl⟩
  case round =>
    obtain ⟨k, hk, rfl, hq, rfl⟩ := hrel
    by_cases hlt : k < m
    · obtain ⟨r, g, o, hr0, rfl, hc⟩ := hP.out.at (k := k) (by have := hl.out; omega)
      have hr1 : (l.map RC.b)[k]? = some r.b := by rw [List.getElem?_map, hr0]; rfl
      have hi : (k : Int) < (m : Int) := by omega
      by_cases hp : r.b.length ≤ 4096
      · have HN : Hid (longP ((l.map RC.b).take (k + 1)) = false) := any_take hr1 hq hp
        have hp1 : (r.b.length : Int) ≤ 4096 := by omega
        clear hr0 hr1 hq
        go_wp2_with fail
        refine ⟨⟨k + 1, by omega, by go_num, HN.out, trivial⟩, ?_⟩
        simp [intOf]; omega
      · have HN : Hid (longP (l.map RC.b) = true) := any_yes hr1 (by omega)
        have hp1 : 4096 < (r.b.length : Int) := by omega
        clear hr0 hr1 hq
        go_wp2_with fail
        go_ret
        exact ⟨ret_b HN.out.symm, rfl⟩
    · have hi : ¬ (k : Int) < (m : Int) := by omega
      have HE : Hid (longP (l.map RC.b) = false) := by
        refine (?_ : longP (l.map RC.b) = false)
        rw [List.take_of_length_le (by rw [List.length_map]; have := hl.out; omega)] at hq
        exact hq
      go_wp2_with fail
      go_ret
      exact ⟨ret_b HE.out.symm, rfl⟩

theorem sum_le {l : List (List UInt8)} (h : longP l = false) : sumL l ≤ 4096 * l.length := by
  induction l with
  | nil => exact Nat.zero_le _
  | cons p l ih =>
    unfold longP at h
    simp only [List.any_cons, Bool.or_eq_false_iff, decide_eq_false_iff_not] at h
    have := ih h.2
    unfold sumL at this ⊢
    simp only [List.map_cons, List.sum_cons, List.length_cons]
    omega
def manyP (ps : List (List UInt8)) : Bool := decide (16384 < ps.length) || decide (524288 < sumL ps)
set_option maxHeartbeats 400000 in
theorem tooMany_no (q : Option Addr) (c m : Nat) (w : World) (hm : 16384 < (m : Int)) :
    Calls Try.prog 25 #[.slice q m c] w fun e w' => e = .returned (.bool true) ∧ w' = w := by
  go_enter Try.func25, Try.ntmps25
  go_wp2_with fail
  go_ret
  exact ⟨rfl, rfl⟩
set_option maxHeartbeats 1000000 in
theorem tooMany_few (l : List RC) (q : Option Addr) (c m : Nat) (w : World) (hl : Hid (l.length = m)) (hm : m ≤ 16384) (hs : Hid (sumL (l.map RC.b) ≤ 4096 * 16384)) (hP : Hid (Pcs w q l)) :
    Calls Try.prog 25 #[.slice q m c] w fun e w' => e = .returned (.bool (decide (524288 < sumL (l.map RC.b)))) ∧ w' = w := by
  have hm1 : (m : Int) ≤ 16384 := by omega
  go_enter Try.func25, Try.ntmps25
  go_wp2_with fail
  go_loopw [3, 11] (fun s i wr => ∃ k t : Nat, k ≤ m ∧ i = .int .i64 k ∧ s = .int .i64 t ∧ t = sumL ((l.map RC.b).take k) ∧ wr = w) (fun _ i _ => m - (intOf i).toNat)
  case atStart => exact ⟨0, 0, Nat.zero_le _, rfl, rfl, rfl, rfl⟩
  case round =>
    obtain ⟨k, t, hk, rfl, rfl, ht, rfl⟩ := hrel
    have hts : t ≤ 4096 * 16384 := by rw [ht]; exact Nat.le_trans (sum_take _ _) hs.out
    by_cases hlt : k < m
    · obtain ⟨r, g, o, hr0, rfl, hc⟩ := hP.out.at (k := k) (by have := hl.out; omega)
      have hr1 : (l.map RC.b)[k]? = some r.b := by rw [List.getElem?_map, hr0]; rfl
      have hi : (k : Int) < (m : Int) := by omega
      have HN : Hid (t + r.b.length = sumL ((l.map RC.b).take (k + 1))) := by
        refine (?_ : t + r.b.length = sumL ((l.map RC.b).take (k + 1)))
        rw [sum_snoc hr1, ht]
      have h2 : t + r.b.length ≤ 4096 * 16384 := by rw [HN.out]; exact Nat.le_trans (sum_take _ _) hs.out
      clear hr0 hr1 ht
      go_wp2_with fail
      refine ⟨⟨k + 1, t + r.b.length, by omega, by go_num, by go_num, HN.out, trivial⟩, ?_⟩
      simp [intOf]; omega
    · have hi : ¬ (k : Int) < (m : Int) := by omega
      have HE : Hid (t = sumL (l.map RC.b)) := by
        refine (?_ : t = sumL (l.map RC.b))
        rw [List.take_of_length_le (by rw [List.length_map]; have := hl.out; omega)] at ht
        exact ht
      go_wp2_with fail
      go_ret
      refine ⟨ret_b ?_, rfl⟩
      rw [← HE.out]
      exact decide_eq_decide.2 (by omega)
theorem tooMany_any (l : List RC) (q : Option Addr) (c m : Nat) (w : World) (hl : l.length = m) (hn : longP (l.map RC.b) = false) (hP : Pcs w q l) :
    Calls Try.prog 25 #[.slice q m c] w fun e w' => e = .returned (.bool (manyP (l.map RC.b))) ∧ w' = w := by
  unfold manyP
  rw [List.length_map, hl]
  by_cases hm : 16384 < m
  · rw [decide_eq_true hm]
    exact tooMany_no q c m w (by omega)
  · rw [decide_eq_false hm, Bool.false_or]
    refine tooMany_few l q c m w hl (by omega) ?_ hP
    have := sum_le hn
    rw [List.length_map, hl] at this
    exact Nat.le_trans this (Nat.mul_le_mul_left _ (by omega))
end Go.Proofs.Ytoiopplhphllhaa
