/-
  The contract of the program's Quote: it answers what 'Txt.quo' says.
-/
import Derived.Test.YtlknklpjlljfjaaWalkN
namespace Go.Proofs.Ytlknklpjlljfjaa
open Go.RowKit

/-- the block that '[]byte(s)' lays -/
def rowOf (s : ByteArray) (cap : Nat) : Obj := .cells (bytesRow s cap) 5 ((bytesRow s cap).size, (bytesRow s cap).size + 1)

theorem rowOf_marked (s : ByteArray) (cap : Nat) : Marked (rowOf s cap) := by
  intro c fz h
  unfold rowOf at h
  cases h
  omega

theorem rowOf_cell {w : World} {g cap : Nat} {s : ByteArray} (h : w.heap[g]? = some (rowOf s cap)) (k : Nat) (hk : k < s.size) : w.cell? ⟨g, k, none⟩ = some (.int .u8 (s[k].toNat : Int)) := by
  unfold rowOf at h
  rw [Lib.cell_of_heap h]
  unfold bytesRow
  rw [Array.getElem?_append_left (by simpa using hk)]
  rw [Array.getElem?_map, Array.getElem?_eq_getElem hk]
  rfl

set_option maxHeartbeats 4000000 in
set_option maxRecDepth 1000000 in
theorem quote_any (s : ByteArray) (w : World) (hs : s.size ≤ 4294967280) :
    Calls Try.prog 17 #[.string s] w fun e w' => e = .returned (.string (quoted s)) ∧ Below w.heap.size w w' := by
  by_cases hq : s.data.toList ≠ [] ∧ Txt.hasB s.data.toList = false
  · have HR : Hid (quoted s = s) := quoted_bare s hq
    have HB : Hid (Txt.hasB s.data.toList = false) := hq.2
    have hne : s.toList.isEmpty = false := by rw [Lib.toList_data]; simpa using hq.1
    clear hq
    go_enter Try.func17, Try.ntmps17
    go_wp2_with (go_at_call 28; refine (contains_is s false _ (by omega) HB.out).mono ?_)
    rintro e w1 ⟨rfl, b1⟩
    go_wp2_with (go_at_call 29; refine (clone_any s _ (by omega)).mono ?_)
    rintro e w2 ⟨rfl, b2⟩
    go_wp2
    go_ret
    rw [HR.out]
    exact ⟨rfl, b1.trans (b2.mono b1.size)⟩
  · have HR : Hid (quoted s = ⟨(34 :: (Txt.esc s.data.toList ++ [34])).toArray⟩) := quoted_marks s hq
    have hcv := fun u => run_bytes_of_string (P := Try.prog) u 9 38 5 s Try.underlying9 Try.underlying38 Try.underlying5
    by_cases h0 : s.data.toList = []
    · have hne : s.toList.isEmpty = true := by rw [Lib.toList_data, h0]; rfl
      clear hq h0
      go_enter Try.func17, Try.ntmps17
      go_wp2_with (go_at_call 30; refine (writeByte_m w.heap.size w.heap.size [] 34 _ (Lib.IsBuilderF.of (Lib.fresh_isBuilder 40 5 w)) (by simp) (by simp)).mono ?_)
      rintro e w2 ⟨rfl, hI2, hb2, _⟩
      have hsz2 : w.heap.size < w2.heap.size := by
        obtain ⟨x, y, hbc, _⟩ := builder_cells hI2
        exact (Array.getElem?_eq_some_iff.1 hbc).1
      have hbel2 : Below w.heap.size w w2 := ((Below.refl _ w).alloc (Nat.le_refl _) _).trans hb2
      clear hb2
      have hcv2 := hcv w2
      clear hcv
      generalize grownCap w2 s.size 0 5 = cp at hcv2
      go_wp2_with fail
      go_loopw [19] (fun iv wr => ∃ k : Nat, iv = .int .i64 k ∧ k ≤ s.size ∧ Lib.IsBuilderF 40 5 w.heap.size w.heap.size (Lib.byteCells (34 :: Txt.esc (s.data.toList.take k))) wr ∧ wr.heap[w2.heap.size]? = some (rowOf s cp) ∧ Below w.heap.size w wr) (fun iv _ => s.size - (intOf iv).toNat)
      case atStart =>
        refine ⟨0, rfl, by omega, ?_, ?_, ?_⟩
        · exact hI2.alloc _
        · exact heap_alloc_new w2 _
        · exact (hbel2.alloc (by omega) _).drew
      case round =>
        obtain ⟨k, rfl, hk, hI, hrow, hbel⟩ := hrel
        have hel := Txt.esc_length (s.data.toList.take k)
        have htl : (s.data.toList.take k).length ≤ k := List.length_take_le _ _
        have hB1 := hbel.size
        by_cases hks : k < s.size
        · have hcell := rowOf_cell hrow k hks
          have hki : (k : Int) < (s.size : Int) := by omega
          have HE : Hid (Txt.esc (s.data.toList.take (k + 1)) = Txt.esc (s.data.toList.take k) ++ Txt.esc [s[k]]) := by unfold Hid; rw [take_snoc s k hks, Txt.esc_append]
          generalize Txt.esc (s.data.toList.take k) = E at hI HE hel
          have hEl : (Lib.byteCells (34 :: E)).length ≤ 8796093022209 := by rw [Lib.byteCells_length]; simp; omega
          have hrne : w2.heap.size ≠ w.heap.size := by omega
          by_cases hm : s[k].toNat = 34 ∨ s[k].toNat = 92
          · have HE2 : Hid (34 :: Txt.esc (s.data.toList.take (k + 1)) = (34 :: E ++ [92]) ++ [s[k]]) := by unfold Hid; rw [HE.out, Txt.esc_one_marked _ hm]; simp
            have HMK : Hid (s[k].toNat = 34 ∨ s[k].toNat = 92) := hm
            by_cases k34 : ((s[k].toNat : Int) == 34) = true
            · clear hm
              go_wp2_with (go_at_call 30; refine (writeByte_m w.heap.size w.heap.size _ 92 _ hI (by omega) hB1).mono ?_)
              rintro e w3 ⟨rfl, hI3, hb3, hk3⟩
              have hrow3 := hk3 _ _ hrow hrne (rowOf_marked s cp)
              have hI4 : Lib.IsBuilderF 40 5 w.heap.size w.heap.size (Lib.byteCells (34 :: E ++ [92])) w3 := by rw [byteCells_one]; exact hI3
              have hbel3 := hbel.trans hb3
              have hB3 := hbel3.size
              have hEl2 : (Lib.byteCells (34 :: E ++ [92])).length ≤ 8796093022210 := by rw [Lib.byteCells_length] at hEl ⊢; rw [List.length_append]; simp at hEl ⊢; omega
              clear hI3 hk3 hb3
              go_wp2_with (go_at_call 30; refine (writeByte_m w.heap.size w.heap.size _ (s[k].toNat : Int) _ hI4 (by omega) hB3).mono ?_)
              rintro e w5 ⟨rfl, hI5, hb5, hk5⟩
              have hrow5 := hk5 _ _ hrow3 hrne (rowOf_marked s cp)
              have hI6 : Lib.IsBuilderF 40 5 w.heap.size w.heap.size (Lib.byteCells ((34 :: E ++ [92]) ++ [s[k]])) w5 := by rw [byteCells_one]; exact hI5
              have hbel5 := hbel3.trans hb5
              clear hI5 hk5 hb5
              go_wp2_with fail
              go_roundw
              case rel => exact ⟨k + 1, by go_num, by omega, by rw [HE2.out]; exact hI6, hrow5, hbel5⟩
              case measure => simp [intOf]; omega
            · rw [Bool.not_eq_true] at k34
              have k92 : ((s[k].toNat : Int) == 92) = true := by have := HMK.out; simp at k34 ⊢; omega
              clear hm
              go_wp2_with (go_at_call 30; refine (writeByte_m w.heap.size w.heap.size _ 92 _ hI (by omega) hB1).mono ?_)
              rintro e w3 ⟨rfl, hI3, hb3, hk3⟩
              have hrow3 := hk3 _ _ hrow hrne (rowOf_marked s cp)
              have hI4 : Lib.IsBuilderF 40 5 w.heap.size w.heap.size (Lib.byteCells (34 :: E ++ [92])) w3 := by rw [byteCells_one]; exact hI3
              have hbel3 := hbel.trans hb3
              have hB3 := hbel3.size
              have hEl2 : (Lib.byteCells (34 :: E ++ [92])).length ≤ 8796093022210 := by rw [Lib.byteCells_length] at hEl ⊢; rw [List.length_append]; simp at hEl ⊢; omega
              clear hI3 hk3 hb3
              go_wp2_with (go_at_call 30; refine (writeByte_m w.heap.size w.heap.size _ (s[k].toNat : Int) _ hI4 (by omega) hB3).mono ?_)
              rintro e w5 ⟨rfl, hI5, hb5, hk5⟩
              have hrow5 := hk5 _ _ hrow3 hrne (rowOf_marked s cp)
              have hI6 : Lib.IsBuilderF 40 5 w.heap.size w.heap.size (Lib.byteCells ((34 :: E ++ [92]) ++ [s[k]])) w5 := by rw [byteCells_one]; exact hI5
              have hbel5 := hbel3.trans hb5
              clear hI5 hk5 hb5
              go_wp2_with fail
              go_roundw
              case rel => exact ⟨k + 1, by go_num, by omega, by rw [HE2.out]; exact hI6, hrow5, hbel5⟩
              case measure => simp [intOf]; omega
          · have HE2 : Hid (34 :: Txt.esc (s.data.toList.take (k + 1)) = (34 :: E) ++ [s[k]]) := by unfold Hid; rw [HE.out, Txt.esc_one_plain _ hm]; simp
            have k34 : ((s[k].toNat : Int) == 34) = false := by simp; omega
            have k92 : ((s[k].toNat : Int) == 92) = false := by simp; omega
            clear hm
            go_wp2_with (go_at_call 30; refine (writeByte_m w.heap.size w.heap.size _ (s[k].toNat : Int) _ hI (by omega) hB1).mono ?_)
            rintro e w3 ⟨rfl, hI3, hb3, hk3⟩
            have hrow3 := hk3 _ _ hrow hrne (rowOf_marked s cp)
            have hI4 : Lib.IsBuilderF 40 5 w.heap.size w.heap.size (Lib.byteCells ((34 :: E) ++ [s[k]])) w3 := by rw [byteCells_one]; exact hI3
            have hbel3 := hbel.trans hb3
            clear hI3 hk3 hb3
            go_wp2_with fail
            go_roundw
            case rel => exact ⟨k + 1, by go_num, by omega, by rw [HE2.out]; exact hI4, hrow3, hbel3⟩
            case measure => simp [intOf]; omega
        · rw [take_all s k (by omega)] at hI
          have hel2 := Txt.esc_length s.data.toList
          rw [← Lib.size_eq] at hel2
          generalize Txt.esc s.data.toList = E at hI hel2 HR
          have hEl : (Lib.byteCells (34 :: E)).length ≤ 8796093022209 := by rw [Lib.byteCells_length]; simp; omega
          go_wp2_with (go_at_call 30; refine (writeByte_m w.heap.size w.heap.size _ 34 _ hI (by omega) hB1).mono ?_)
          rintro e w3 ⟨rfl, hI3, hb3, _⟩
          have hI4 : Lib.IsBuilderF 40 5 w.heap.size w.heap.size (Lib.byteCells (34 :: (E ++ [34]))) w3 := by
            have e : (34 : UInt8) :: (E ++ [34]) = (34 :: E) ++ [34] := by simp
            rw [e, byteCells_one]; exact hI3
          have hbel3 := hbel.trans hb3
          have hB3 := hbel3.size
          clear hI3 hb3
          go_wp2_with (go_at_call 23; refine (Try.Builder_String_any_k w.heap.size w.heap.size _ _ hI4 hB3).mono ?_)
          rintro e w4 ⟨rfl, _, b4, _⟩
          go_wp2
          go_ret
          rw [HR.out]
          exact ⟨rfl, hbel3.trans b4⟩
    · have HB : Hid (Txt.hasB s.data.toList = true) := by
        unfold Hid
        cases h : Txt.hasB s.data.toList with
        | true => rfl
        | false => exact absurd ⟨h0, h⟩ hq
      have hne : s.toList.isEmpty = false := by rw [Lib.toList_data]; simpa using h0
      clear hq h0
      go_enter Try.func17, Try.ntmps17
      go_wp2_with (go_at_call 28; refine (contains_is s true _ (by omega) HB.out).mono ?_)
      rintro e w1 ⟨rfl, b1⟩
      go_wp2_with (go_at_call 30; refine (writeByte_m w1.heap.size w1.heap.size [] 34 _ (Lib.IsBuilderF.of (Lib.fresh_isBuilder 40 5 w1)) (by simp) (by simp)).mono ?_)
      rintro e w2 ⟨rfl, hI2, hb2, _⟩
      have hsz2 : w1.heap.size < w2.heap.size := by
        obtain ⟨x, y, hbc, _⟩ := builder_cells hI2
        exact (Array.getElem?_eq_some_iff.1 hbc).1
      have hbel2 : Below w1.heap.size w1 w2 := ((Below.refl _ w1).alloc (Nat.le_refl _) _).trans hb2
      clear hb2
      have hcv2 := hcv w2
      clear hcv
      generalize grownCap w2 s.size 0 5 = cp at hcv2
      go_wp2_with fail
      go_loopw [19] (fun iv wr => ∃ k : Nat, iv = .int .i64 k ∧ k ≤ s.size ∧ Lib.IsBuilderF 40 5 w1.heap.size w1.heap.size (Lib.byteCells (34 :: Txt.esc (s.data.toList.take k))) wr ∧ wr.heap[w2.heap.size]? = some (rowOf s cp) ∧ Below w1.heap.size w1 wr) (fun iv _ => s.size - (intOf iv).toNat)
      case atStart =>
        refine ⟨0, rfl, by omega, ?_, ?_, ?_⟩
        · exact hI2.alloc _
        · exact heap_alloc_new w2 _
        · exact (hbel2.alloc (by omega) _).drew
      case round =>
        obtain ⟨k, rfl, hk, hI, hrow, hbel⟩ := hrel
        have hel := Txt.esc_length (s.data.toList.take k)
        have htl : (s.data.toList.take k).length ≤ k := List.length_take_le _ _
        have hB1 := hbel.size
        by_cases hks : k < s.size
        · have hcell := rowOf_cell hrow k hks
          have hki : (k : Int) < (s.size : Int) := by omega
          have HE : Hid (Txt.esc (s.data.toList.take (k + 1)) = Txt.esc (s.data.toList.take k) ++ Txt.esc [s[k]]) := by unfold Hid; rw [take_snoc s k hks, Txt.esc_append]
          generalize Txt.esc (s.data.toList.take k) = E at hI HE hel
          have hEl : (Lib.byteCells (34 :: E)).length ≤ 8796093022209 := by rw [Lib.byteCells_length]; simp; omega
          have hrne : w2.heap.size ≠ w1.heap.size := by omega
          by_cases hm : s[k].toNat = 34 ∨ s[k].toNat = 92
          · have HE2 : Hid (34 :: Txt.esc (s.data.toList.take (k + 1)) = (34 :: E ++ [92]) ++ [s[k]]) := by unfold Hid; rw [HE.out, Txt.esc_one_marked _ hm]; simp
            have HMK : Hid (s[k].toNat = 34 ∨ s[k].toNat = 92) := hm
            by_cases k34 : ((s[k].toNat : Int) == 34) = true
            · clear hm
              go_wp2_with (go_at_call 30; refine (writeByte_m w1.heap.size w1.heap.size _ 92 _ hI (by omega) hB1).mono ?_)
              rintro e w3 ⟨rfl, hI3, hb3, hk3⟩
              have hrow3 := hk3 _ _ hrow hrne (rowOf_marked s cp)
              have hI4 : Lib.IsBuilderF 40 5 w1.heap.size w1.heap.size (Lib.byteCells (34 :: E ++ [92])) w3 := by rw [byteCells_one]; exact hI3
              have hbel3 := hbel.trans hb3
              have hB3 := hbel3.size
              have hEl2 : (Lib.byteCells (34 :: E ++ [92])).length ≤ 8796093022210 := by rw [Lib.byteCells_length] at hEl ⊢; rw [List.length_append]; simp at hEl ⊢; omega
              clear hI3 hk3 hb3
              go_wp2_with (go_at_call 30; refine (writeByte_m w1.heap.size w1.heap.size _ (s[k].toNat : Int) _ hI4 (by omega) hB3).mono ?_)
              rintro e w5 ⟨rfl, hI5, hb5, hk5⟩
              have hrow5 := hk5 _ _ hrow3 hrne (rowOf_marked s cp)
              have hI6 : Lib.IsBuilderF 40 5 w1.heap.size w1.heap.size (Lib.byteCells ((34 :: E ++ [92]) ++ [s[k]])) w5 := by rw [byteCells_one]; exact hI5
              have hbel5 := hbel3.trans hb5
              clear hI5 hk5 hb5
              go_wp2_with fail
              go_roundw
              case rel => exact ⟨k + 1, by go_num, by omega, by rw [HE2.out]; exact hI6, hrow5, hbel5⟩
              case measure => simp [intOf]; omega
            · rw [Bool.not_eq_true] at k34
              have k92 : ((s[k].toNat : Int) == 92) = true := by have := HMK.out; simp at k34 ⊢; omega
              clear hm
              go_wp2_with (go_at_call 30; refine (writeByte_m w1.heap.size w1.heap.size _ 92 _ hI (by omega) hB1).mono ?_)
              rintro e w3 ⟨rfl, hI3, hb3, hk3⟩
              have hrow3 := hk3 _ _ hrow hrne (rowOf_marked s cp)
              have hI4 : Lib.IsBuilderF 40 5 w1.heap.size w1.heap.size (Lib.byteCells (34 :: E ++ [92])) w3 := by rw [byteCells_one]; exact hI3
              have hbel3 := hbel.trans hb3
              have hB3 := hbel3.size
              have hEl2 : (Lib.byteCells (34 :: E ++ [92])).length ≤ 8796093022210 := by rw [Lib.byteCells_length] at hEl ⊢; rw [List.length_append]; simp at hEl ⊢; omega
              clear hI3 hk3 hb3
              go_wp2_with (go_at_call 30; refine (writeByte_m w1.heap.size w1.heap.size _ (s[k].toNat : Int) _ hI4 (by omega) hB3).mono ?_)
              rintro e w5 ⟨rfl, hI5, hb5, hk5⟩
              have hrow5 := hk5 _ _ hrow3 hrne (rowOf_marked s cp)
              have hI6 : Lib.IsBuilderF 40 5 w1.heap.size w1.heap.size (Lib.byteCells ((34 :: E ++ [92]) ++ [s[k]])) w5 := by rw [byteCells_one]; exact hI5
              have hbel5 := hbel3.trans hb5
              clear hI5 hk5 hb5
              go_wp2_with fail
              go_roundw
              case rel => exact ⟨k + 1, by go_num, by omega, by rw [HE2.out]; exact hI6, hrow5, hbel5⟩
              case measure => simp [intOf]; omega
          · have HE2 : Hid (34 :: Txt.esc (s.data.toList.take (k + 1)) = (34 :: E) ++ [s[k]]) := by unfold Hid; rw [HE.out, Txt.esc_one_plain _ hm]; simp
            have k34 : ((s[k].toNat : Int) == 34) = false := by simp; omega
            have k92 : ((s[k].toNat : Int) == 92) = false := by simp; omega
            clear hm
            go_wp2_with (go_at_call 30; refine (writeByte_m w1.heap.size w1.heap.size _ (s[k].toNat : Int) _ hI (by omega) hB1).mono ?_)
            rintro e w3 ⟨rfl, hI3, hb3, hk3⟩
            have hrow3 := hk3 _ _ hrow hrne (rowOf_marked s cp)
            have hI4 : Lib.IsBuilderF 40 5 w1.heap.size w1.heap.size (Lib.byteCells ((34 :: E) ++ [s[k]])) w3 := by rw [byteCells_one]; exact hI3
            have hbel3 := hbel.trans hb3
            clear hI3 hk3 hb3
            go_wp2_with fail
            go_roundw
            case rel => exact ⟨k + 1, by go_num, by omega, by rw [HE2.out]; exact hI4, hrow3, hbel3⟩
            case measure => simp [intOf]; omega
        · rw [take_all s k (by omega)] at hI
          have hel2 := Txt.esc_length s.data.toList
          rw [← Lib.size_eq] at hel2
          generalize Txt.esc s.data.toList = E at hI hel2 HR
          have hEl : (Lib.byteCells (34 :: E)).length ≤ 8796093022209 := by rw [Lib.byteCells_length]; simp; omega
          go_wp2_with (go_at_call 30; refine (writeByte_m w1.heap.size w1.heap.size _ 34 _ hI (by omega) hB1).mono ?_)
          rintro e w3 ⟨rfl, hI3, hb3, _⟩
          have hI4 : Lib.IsBuilderF 40 5 w1.heap.size w1.heap.size (Lib.byteCells (34 :: (E ++ [34]))) w3 := by
            have e : (34 : UInt8) :: (E ++ [34]) = (34 :: E) ++ [34] := by simp
            rw [e, byteCells_one]; exact hI3
          have hbel3 := hbel.trans hb3
          have hB3 := hbel3.size
          clear hI3 hb3
          go_wp2_with (go_at_call 23; refine (Try.Builder_String_any_k w1.heap.size w1.heap.size _ _ hI4 hB3).mono ?_)
          rintro e w4 ⟨rfl, _, b4, _⟩
          go_wp2
          go_ret
          rw [HR.out]
          exact ⟨rfl, b1.trans ((hbel3.trans b4).mono b1.size)⟩

end Go.Proofs.Ytlknklpjlljfjaa
