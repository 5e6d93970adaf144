/-
  The contracts of Quote, the reference's and the program's: both answer what 'Txt.quo' says.
-/
import Derived.Test.YtlknklpjlljfjaaWalkM
namespace Go.Proofs.Ytlknklpjlljfjaa
open Go.RowKit

def quoted (s : ByteArray) : ByteArray := ⟨(Txt.quo s.data.toList).toArray⟩

theorem quoted_bare (s : ByteArray) (h : s.data.toList ≠ [] ∧ Txt.hasB s.data.toList = false) : quoted s = s := by
  unfold quoted Txt.quo
  rw [if_pos h]
theorem quoted_marks (s : ByteArray) (h : ¬ (s.data.toList ≠ [] ∧ Txt.hasB s.data.toList = false)) : quoted s = ⟨(34 :: (Txt.esc s.data.toList ++ [34])).toArray⟩ := by
  unfold quoted Txt.quo
  rw [if_neg h]

theorem take_snoc (s : ByteArray) (k : Nat) (h : k < s.size) : s.data.toList.take (k + 1) = s.data.toList.take k ++ [s[k]] := by
  rw [List.take_succ_eq_append_getElem (by rw [← Lib.size_eq]; exact h)]; rfl

theorem take_all (s : ByteArray) (k : Nat) (h : s.size ≤ k) : s.data.toList.take k = s.data.toList := List.take_of_length_le (by rw [← Lib.size_eq]; exact h)

theorem cells_snoc (acc : List UInt8) (b : UInt8) : Lib.byteCells (acc ++ [b]) = Lib.byteCells acc ++ [.int .u8 (b.toNat : Int)] := byteCells_one acc b

/-- is it bare, as far as it was read? -/
def bareB (s : ByteArray) (k : Nat) : Bool := decide (0 < s.size) && !Txt.hasB (s.data.toList.take k)

theorem bareB_hit (s : ByteArray) (k : Nat) (h : k < s.size) (hb : s[k].toNat = 32 ∨ s[k].toNat = 34) : bareB s (k + 1) = false := by
  unfold bareB; rw [take_snoc s k h, Txt.hasB_snoc]; simp [hb]
theorem bareB_miss (s : ByteArray) (k : Nat) (h : k < s.size) (hb : ¬ (s[k].toNat = 32 ∨ s[k].toNat = 34)) : bareB s (k + 1) = bareB s k := by
  unfold bareB; rw [take_snoc s k h, Txt.hasB_snoc]; simp [hb]
theorem bareB_zero (s : ByteArray) : bareB s 0 = decide (0 < s.size) := by simp [bareB, Txt.hasB]
theorem bareB_end (s : ByteArray) (k : Nat) (h : s.size ≤ k) : bareB s k = true ↔ (s.data.toList ≠ [] ∧ Txt.hasB s.data.toList = false) := by
  unfold bareB
  rw [take_all s k h, Lib.size_eq]
  simp only [Bool.and_eq_true, decide_eq_true_eq, Bool.not_eq_true']
  constructor
  · rintro ⟨h1, h2⟩
    exact ⟨List.length_pos_iff.1 (by omega), h2⟩
  · rintro ⟨h1, h2⟩
    exact ⟨by have := List.length_pos_iff.2 h1; omega, h2⟩

set_option maxHeartbeats 4000000 in
set_option maxRecDepth 1000000 in
theorem rquote_any (s : ByteArray) (w : World) (hs : s.size ≤ 4398046511104) :
    Calls Try.prog 18 #[.string s] w fun e w' => e = .returned (.string (quoted s)) ∧ Below w.heap.size w w' := by
  go_enter Try.func18, Try.ntmps18
  go_wp2_with (at_builtin; refine append_byte rfl _ _ rfl w.heap.size _ 0 [] rfl (World.ownsRow_nil _ _ _ _) 34 rfl (by omega) (Nat.le_refl _) ?_)
  intro v1 w1 hown1 hgrow1
  have hbel1 : Below w.heap.size w w1 := ((Below.refl _ w).alloc (Nat.le_refl _) _).grown hgrow1 (by simp) (fun k hk => by simp [Value.ownBlock] at hk)
  have hownA : w1.ownsRow w.heap.size 5 1 v1 ([34] : List UInt8).length (Lib.byteCells [34]) := by simpa [Lib.byteCells] using hown1
  clear hown1 hgrow1
  go_wp2_with fail
  go_loopw [3, 4, 5] (fun bare v iv wr => ∃ k : Nat, iv = .int .i64 k ∧ k ≤ s.size ∧ bare = .bool (bareB s k) ∧ wr.ownsRow w.heap.size 5 1 v (34 :: Txt.esc (s.data.toList.take k)).length (Lib.byteCells (34 :: Txt.esc (s.data.toList.take k))) ∧ Below w.heap.size w wr) (fun _ _ iv _ => s.size - (intOf iv).toNat)
  case atStart => exact ⟨0, rfl, by omega, by rw [bareB_zero], hownA, hbel1⟩
  case round =>
    obtain ⟨k, rfl, hk, rfl, hown, hbel⟩ := hrel
    have hel := Txt.esc_length (s.data.toList.take k)
    have htl : (s.data.toList.take k).length ≤ k := List.length_take_le _ _
    have hB1 := hbel.size
    by_cases hks : k < s.size
    · have HE : Hid (Txt.esc (s.data.toList.take (k + 1)) = Txt.esc (s.data.toList.take k) ++ Txt.esc [s[k]]) := by unfold Hid; rw [take_snoc s k hks, Txt.esc_append]
      have HH : Hid ((s[k].toNat = 32 ∨ s[k].toNat = 34) → bareB s (k + 1) = false) := bareB_hit s k hks
      have HM : Hid (¬ (s[k].toNat = 32 ∨ s[k].toNat = 34) → bareB s (k + 1) = bareB s k) := bareB_miss s k hks
      generalize Txt.esc (s.data.toList.take k) = E at hown HE hel
      generalize bareB s k = bk at HM
      have hEl : (34 :: E).length ≤ 8796093022209 := by simp; omega
      by_cases hm : s[k].toNat = 34 ∨ s[k].toNat = 92
      · have HE2 : Hid (34 :: Txt.esc (s.data.toList.take (k + 1)) = (34 :: E ++ [92]) ++ [s[k]]) := by unfold Hid; rw [HE.out, Txt.esc_one_marked _ hm]; simp
        by_cases h34 : s[k].toNat = 34
        · have k32 : ((s[k].toNat : Int) == 32) = false := by simp; omega
          have k34 : ((s[k].toNat : Int) == 34) = true := by simp; omega
          have HBB : Hid (bareB s (k + 1) = false) := HH.out (.inr h34)
          clear h34 hm
          go_wp2_with (at_builtin; refine append_byte rfl _ _ rfl w.heap.size _ _ _ rfl hown 92 rfl (by omega) hB1 ?_)
          intro v2 w2 hown2 hgrow2
          have hbel2 : Below w.heap.size w w2 := (hbel.alloc hB1 _).grown hgrow2 (by simp; omega) (fun j hj => ((hown.alloc (.cells #[.int .u8 92] 5)).lt j hj).1)
          have hown3 : w2.ownsRow w.heap.size 5 1 v2 (34 :: E ++ [92]).length (Lib.byteCells (34 :: E ++ [92])) := by rw [byteCells_one]; simpa using hown2
          have hB2 := hbel2.size
          have hEl2 : (34 :: E ++ [92]).length ≤ 8796093022210 := by rw [List.length_append]; simp at hEl ⊢; omega
          clear hown hown2 hgrow2 hbel
          go_wp2_with (at_builtin; refine append_byte rfl _ _ rfl w.heap.size _ _ _ rfl hown3 (s[k].toNat : Int) rfl (by omega) hB2 ?_)
          intro v4 w4 hown4 hgrow4
          have hbel4 : Below w.heap.size w w4 := (hbel2.alloc hB2 _).grown hgrow4 (by simp; omega) (fun j hj => ((hown3.alloc (.cells #[.int .u8 (s[k].toNat : Int)] 5)).lt j hj).1)
          have hown5 : w4.ownsRow w.heap.size 5 1 v4 ((34 :: E ++ [92]) ++ [s[k]]).length (Lib.byteCells ((34 :: E ++ [92]) ++ [s[k]])) := by rw [byteCells_one]; simpa using hown4
          clear hown3 hown4 hgrow4 hbel2
          go_wp2_with fail
          go_roundw
          case rel => exact ⟨k + 1, by go_num, by omega, by rw [HBB.out], by rw [HE2.out]; exact hown5, hbel4⟩
          case measure => simp [intOf]; omega
        · have k32 : ((s[k].toNat : Int) == 32) = false := by simp; omega
          have k34 : ((s[k].toNat : Int) == 34) = false := by simp; omega
          have k92 : ((s[k].toNat : Int) == 92) = true := by simp; omega
          have HBB : Hid (bareB s (k + 1) = bk) := HM.out (by omega)
          clear h34 hm
          go_wp2_with (at_builtin; refine append_byte rfl _ _ rfl w.heap.size _ _ _ rfl hown 92 rfl (by omega) hB1 ?_)
          intro v2 w2 hown2 hgrow2
          have hbel2 : Below w.heap.size w w2 := (hbel.alloc hB1 _).grown hgrow2 (by simp; omega) (fun j hj => ((hown.alloc (.cells #[.int .u8 92] 5)).lt j hj).1)
          have hown3 : w2.ownsRow w.heap.size 5 1 v2 (34 :: E ++ [92]).length (Lib.byteCells (34 :: E ++ [92])) := by rw [byteCells_one]; simpa using hown2
          have hB2 := hbel2.size
          have hEl2 : (34 :: E ++ [92]).length ≤ 8796093022210 := by rw [List.length_append]; simp at hEl ⊢; omega
          clear hown hown2 hgrow2 hbel
          go_wp2_with (at_builtin; refine append_byte rfl _ _ rfl w.heap.size _ _ _ rfl hown3 (s[k].toNat : Int) rfl (by omega) hB2 ?_)
          intro v4 w4 hown4 hgrow4
          have hbel4 : Below w.heap.size w w4 := (hbel2.alloc hB2 _).grown hgrow4 (by simp; omega) (fun j hj => ((hown3.alloc (.cells #[.int .u8 (s[k].toNat : Int)] 5)).lt j hj).1)
          have hown5 : w4.ownsRow w.heap.size 5 1 v4 ((34 :: E ++ [92]) ++ [s[k]]).length (Lib.byteCells ((34 :: E ++ [92]) ++ [s[k]])) := by rw [byteCells_one]; simpa using hown4
          clear hown3 hown4 hgrow4 hbel2
          go_wp2_with fail
          go_roundw
          case rel => exact ⟨k + 1, by go_num, by omega, by rw [HBB.out], by rw [HE2.out]; exact hown5, hbel4⟩
          case measure => simp [intOf]; omega
      · have HE2 : Hid (34 :: Txt.esc (s.data.toList.take (k + 1)) = (34 :: E) ++ [s[k]]) := by unfold Hid; rw [HE.out, Txt.esc_one_plain _ hm]; simp
        have k34 : ((s[k].toNat : Int) == 34) = false := by simp; omega
        have k92 : ((s[k].toNat : Int) == 92) = false := by simp; omega
        by_cases h32 : s[k].toNat = 32
        · have k32 : ((s[k].toNat : Int) == 32) = true := by simp; omega
          have HBB : Hid (bareB s (k + 1) = false) := HH.out (.inl h32)
          clear h32 hm
          go_wp2_with (at_builtin; refine append_byte rfl _ _ rfl w.heap.size _ _ _ rfl hown (s[k].toNat : Int) rfl (by omega) hB1 ?_)
          intro v2 w2 hown2 hgrow2
          have hbel2 : Below w.heap.size w w2 := (hbel.alloc hB1 _).grown hgrow2 (by simp; omega) (fun j hj => ((hown.alloc (.cells #[.int .u8 (s[k].toNat : Int)] 5)).lt j hj).1)
          have hown3 : w2.ownsRow w.heap.size 5 1 v2 ((34 :: E) ++ [s[k]]).length (Lib.byteCells ((34 :: E) ++ [s[k]])) := by rw [byteCells_one]; simpa using hown2
          clear hown hown2 hgrow2 hbel
          go_wp2_with fail
          go_roundw
          case rel => exact ⟨k + 1, by go_num, by omega, by rw [HBB.out], by rw [HE2.out]; exact hown3, hbel2⟩
          case measure => simp [intOf]; omega
        · have k32 : ((s[k].toNat : Int) == 32) = false := by simp; omega
          have HBB : Hid (bareB s (k + 1) = bk) := HM.out (by omega)
          clear h32 hm
          go_wp2_with (at_builtin; refine append_byte rfl _ _ rfl w.heap.size _ _ _ rfl hown (s[k].toNat : Int) rfl (by omega) hB1 ?_)
          intro v2 w2 hown2 hgrow2
          have hbel2 : Below w.heap.size w w2 := (hbel.alloc hB1 _).grown hgrow2 (by simp; omega) (fun j hj => ((hown.alloc (.cells #[.int .u8 (s[k].toNat : Int)] 5)).lt j hj).1)
          have hown3 : w2.ownsRow w.heap.size 5 1 v2 ((34 :: E) ++ [s[k]]).length (Lib.byteCells ((34 :: E) ++ [s[k]])) := by rw [byteCells_one]; simpa using hown2
          clear hown hown2 hgrow2 hbel
          go_wp2_with fail
          go_roundw
          case rel => exact ⟨k + 1, by go_num, by omega, by rw [HBB.out], by rw [HE2.out]; exact hown3, hbel2⟩
          case measure => simp [intOf]; omega
    · have HT : Hid (s.data.toList.take k = s.data.toList) := take_all s k (by omega)
      have HEND := bareB_end s k (by omega)
      cases hb : bareB s k with
      | true =>
        have HR : Hid (quoted s = s) := quoted_bare s (HEND.1 hb)
        clear hb HEND
        go_wp2_with fail
        go_ret
        rw [HR.out]
        exact ⟨rfl, hbel⟩
      | false =>
        have HR : Hid (quoted s = ⟨(34 :: (Txt.esc s.data.toList ++ [34])).toArray⟩) := quoted_marks s (fun h => by rw [HEND.2 h] at hb; cases hb)
        clear hb HEND
        rw [HT.out] at hown hel
        have hEl : (34 :: Txt.esc s.data.toList).length ≤ 8796093022209 := by
          have := htl
          rw [HT.out] at this
          simp
          omega
        generalize Txt.esc s.data.toList = E at hown hel hEl HR
        go_wp2_with (at_builtin; refine append_byte rfl _ _ rfl w.heap.size _ _ _ rfl hown 34 rfl (by omega) hB1 ?_)
        intro v2 w2 hown2 hgrow2
        have hbel2 : Below w.heap.size w w2 := (hbel.alloc hB1 _).grown hgrow2 (by simp; omega) (fun k hk => ((hown.alloc (.cells #[.int .u8 34] 5)).lt k hk).1)
        have hown3 : w2.ownsRow w.heap.size 5 1 v2 (34 :: (E ++ [34])).length (Lib.byteCells (34 :: (E ++ [34]))) := by
          have e : (34 : UInt8) :: (E ++ [34]) = (34 :: E) ++ [34] := by simp
          rw [e, byteCells_one]
          simpa using hown2
        have hcv := own_convert hown3
        clear hown hown2 hown3 hgrow2 hbel
        go_wp2_with fail
        go_ret
        rw [HR.out]
        exact ⟨rfl, hbel2⟩

end Go.Proofs.Ytlknklpjlljfjaa
