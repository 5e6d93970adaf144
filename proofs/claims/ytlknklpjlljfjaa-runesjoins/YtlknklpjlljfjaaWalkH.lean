/-
  The contract of the reference's quoted.
-/
import Derived.Test.YtlknklpjlljfjaaWalkE
import Derived.Test.YtlknklpjlljfjaaScan
import Derived.Lib.BufferRead
namespace Go.Proofs.Ytlknklpjlljfjaa
open Go.RowKit

theorem drop_cons (s : ByteArray) (pos : Nat) (h : pos < s.size) : s.data.toList.drop pos = s[pos] :: s.data.toList.drop (pos + 1) := by
  rw [List.drop_eq_getElem_cons (by rw [← Lib.size_eq]; exact h)]
  rfl

theorem byteCells_one (l : List UInt8) (b : UInt8) : Lib.byteCells (l ++ [b]) = Lib.byteCells l ++ [.int .u8 (b.toNat : Int)] := by
  rw [Lib.byteCells_append]; rfl

/-- 'string(b)' of an owned row of bytes -/
theorem own_convert {w : World} {B : Nat} {v : Value} {l : List UInt8} (h : w.ownsRow B 5 1 v l.length (Lib.byteCells l)) : (convert 38 9 v).run Try.prog w = .ok (.string ⟨l.toArray⟩) w := by
  rcases h.2 with ⟨rfl, hn⟩ | ⟨g, cap, cur, rfl, hb, hg, _, _, _, htk⟩
  · have : l = [] := List.length_eq_zero_iff.1 hn
    subst this
    exact Lib.run_convert_nil_bytes w 38 9 5 0 Try.underlying38 Try.underlying5 Try.underlying9
  · exact run_convert_bytes_back w 38 9 5 ⟨g, 0, none⟩ cap l Try.underlying38 Try.underlying5 Try.underlying9 (Lib.bytes_of_row hg (by simpa using htk))

set_option maxHeartbeats 4000000 in
set_option maxRecDepth 1000000 in
theorem quoted_any (s : ByteArray) (i : Nat) (w : World) (hs : s.size ≤ 4398046511104) (hi : i < s.size) :
    Calls Try.prog 27 #[.string s, .int .i64 i] w fun e w' => ∃ v, e = .returned (.tuple #[v, .int .i64 (Txt.qs (s.data.toList.drop (i + 1)) [] (i + 1)).2.1, .bool (Txt.qs (s.data.toList.drop (i + 1)) [] (i + 1)).2.2]) ∧
      w'.ownsRow w.heap.size 5 1 v (Txt.qs (s.data.toList.drop (i + 1)) [] (i + 1)).1.length (Lib.byteCells (Txt.qs (s.data.toList.drop (i + 1)) [] (i + 1)).1) ∧ Below w.heap.size w w' := by
  obtain ⟨i0, hinf, hz0, hz1, hz2⟩ := info_parts infoByte
  generalize hQ : Txt.qs (s.data.toList.drop (i + 1)) [] (i + 1) = Q
  have HQ : Hid (Txt.qs (s.data.toList.drop (i + 1)) [] (i + 1) = Q) := hQ
  clear hQ
  go_enter Try.func27, Try.ntmps27
  go_wp2_with fail
  go_loopw [1, 7] (fun iv v wr => ∃ (pos : Nat) (acc : List UInt8), iv = .int .i64 pos ∧ pos ≤ s.size ∧ wr.ownsRow w.heap.size 5 1 v acc.length (Lib.byteCells acc) ∧ Below w.heap.size w wr ∧ Txt.qs (s.data.toList.drop pos) acc pos = Q ∧ acc.length ≤ pos) (fun iv _ _ => s.size - (intOf iv).toNat)
  case atStart => exact ⟨i + 1, [], by go_num, by omega, World.ownsRow_nil _ _ _ _, Below.refl _ _, HQ.out, by simp⟩
  case round =>
    obtain ⟨pos, acc, rfl, hpl, hown, hbel, hq, hal⟩ := hrel
    have HR : Hid (Txt.qs (s.data.toList.drop pos) acc pos = Q) := hq
    clear hq HQ
    by_cases hp : pos < s.size
    · have HD : Hid (s.data.toList.drop pos = s[pos] :: s.data.toList.drop (pos + 1)) := drop_cons s pos hp
      by_cases h34 : s[pos].toNat = 34
      · have k34 : ((s[pos].toNat : Int) != 34) = false := by simp; omega
        have HE : Hid ((acc, pos + 1, true) = Q) := by unfold Hid; rw [← HR.out, HD.out, Txt.qs_close _ _ _ _ h34]
        clear h34
        go_wp2_with fail
        go_ret3
        rw [← HE.out]
        exact ⟨_, rfl, hown, hbel⟩
      have k34 : ((s[pos].toNat : Int) != 34) = true := by simp; omega
      by_cases h92 : s[pos].toNat = 92
      · have k92 : ((s[pos].toNat : Int) == 92) = true := by simp; omega
        by_cases hp1 : pos + 1 < s.size
        · have HD1 : Hid (s.data.toList.drop (pos + 1) = s[pos + 1] :: s.data.toList.drop (pos + 2)) := drop_cons s (pos + 1) hp1
          by_cases hc : s[pos + 1].toNat = 34 ∨ s[pos + 1].toNat = 92
          · have HE : Hid (Txt.qs (s.data.toList.drop (pos + 2)) (acc ++ [s[pos + 1]]) (pos + 2) = Q) := by unfold Hid; rw [← HR.out, HD.out, HD1.out, Txt.qs_esc _ _ _ _ _ h92 hc]
            have HCC : Hid (s[pos + 1].toNat = 34 ∨ s[pos + 1].toNat = 92) := hc
            by_cases c34 : ((s[pos + 1].toNat : Int) != 34) = true
            · have c92 : ((s[pos + 1].toNat : Int) != 92) = false := by have := HCC.out; simp at c34 ⊢; omega
              clear hc h34 h92
              go_wp2_with (at_builtin; refine wpList_append_own _ rfl _ _ 38 rfl w.heap.size 5 i0 (.int .u8 0) 1 1 Try.underlying38 hinf hz0 hz1 hz2 rfl (by decide) _ _ _ rfl (hown.alloc _) ⟨wr.heap.size, 0, none⟩ 1 1 [.int .u8 (s[pos + 1].toNat : Int)] rfl rfl ?c1 ?c2 ?c3 ?c4 ?c5 ?_)
              case c1 => exact cell_one_new wr _ _
              case c2 => intro u hu; simp at hu; subst hu; rfl
              case c3 => unfold maxLen; omega
              case c4 => omega
              case c5 => have := hbel.size; simp; omega
              intro v' w2 hown2 hgrow _
              have hbel2 : Below w.heap.size w w2 := (hbel.alloc (hbel.size) _).grown hgrow (by have := hbel.size; simp; omega) (fun k hk => ((hown.alloc (.cells #[.int .u8 (s[pos + 1].toNat : Int)] 5)).lt k hk).1)
              have hown3 : w2.ownsRow w.heap.size 5 1 v' (acc ++ [s[pos + 1]]).length (Lib.byteCells (acc ++ [s[pos + 1]])) := by rw [byteCells_one]; simpa using hown2
              clear hown hown2 hgrow hbel
              go_wp2_with fail
              go_roundw
              case rel => exact ⟨pos + 2, acc ++ [s[pos + 1]], by go_num, by omega, hown3, hbel2, HE.out, by simp; omega⟩
              case measure => simp [intOf]; omega
            · rw [Bool.not_eq_true] at c34
              clear hc h34 h92
              go_wp2_with (at_builtin; refine wpList_append_own _ rfl _ _ 38 rfl w.heap.size 5 i0 (.int .u8 0) 1 1 Try.underlying38 hinf hz0 hz1 hz2 rfl (by decide) _ _ _ rfl (hown.alloc _) ⟨wr.heap.size, 0, none⟩ 1 1 [.int .u8 (s[pos + 1].toNat : Int)] rfl rfl ?c1 ?c2 ?c3 ?c4 ?c5 ?_)
              case c1 => exact cell_one_new wr _ _
              case c2 => intro u hu; simp at hu; subst hu; rfl
              case c3 => unfold maxLen; omega
              case c4 => omega
              case c5 => have := hbel.size; simp; omega
              intro v' w2 hown2 hgrow _
              have hbel2 : Below w.heap.size w w2 := (hbel.alloc (hbel.size) _).grown hgrow (by have := hbel.size; simp; omega) (fun k hk => ((hown.alloc (.cells #[.int .u8 (s[pos + 1].toNat : Int)] 5)).lt k hk).1)
              have hown3 : w2.ownsRow w.heap.size 5 1 v' (acc ++ [s[pos + 1]]).length (Lib.byteCells (acc ++ [s[pos + 1]])) := by rw [byteCells_one]; simpa using hown2
              clear hown hown2 hgrow hbel
              go_wp2_with fail
              go_roundw
              case rel => exact ⟨pos + 2, acc ++ [s[pos + 1]], by go_num, by omega, hown3, hbel2, HE.out, by simp; omega⟩
              case measure => simp [intOf]; omega
          · have HE : Hid (([], pos + 1, false) = Q) := by unfold Hid; rw [← HR.out, HD.out, HD1.out, Txt.qs_bad _ _ _ _ _ h92 hc]
            have c34 : ((s[pos + 1].toNat : Int) != 34) = true := by simp; omega
            have c92 : ((s[pos + 1].toNat : Int) != 92) = true := by simp; omega
            clear h34 h92 hc
            go_wp2_with fail
            go_ret3
            rw [← HE.out]
            exact ⟨_, rfl, World.ownsRow_nil _ _ _ _, hbel⟩
        · have HE : Hid (Txt.qs (s.data.toList.drop (pos + 1)) acc (pos + 1) = Q) := by
            unfold Hid
            have e : s.data.toList.drop (pos + 1) = [] := List.drop_eq_nil_of_le (by rw [← Lib.size_eq]; omega)
            rw [← HR.out, HD.out, e, Txt.qs_last _ _ _ h92]
            rfl
          clear h34 h92
          go_wp2_with fail
          go_roundw
          case rel => exact ⟨pos + 1, acc, by go_num, by omega, hown, hbel, HE.out, by omega⟩
          case measure => simp [intOf]; omega
      · have k92 : ((s[pos].toNat : Int) == 92) = false := by simp; omega
        have HE : Hid (Txt.qs (s.data.toList.drop (pos + 1)) (acc ++ [s[pos]]) (pos + 1) = Q) := by unfold Hid; rw [← HR.out, HD.out, Txt.qs_on _ _ _ _ h34 h92]
        clear h34 h92
        go_wp2_with (at_builtin; refine wpList_append_own _ rfl _ _ 38 rfl w.heap.size 5 i0 (.int .u8 0) 1 1 Try.underlying38 hinf hz0 hz1 hz2 rfl (by decide) _ _ _ rfl (hown.alloc _) ⟨wr.heap.size, 0, none⟩ 1 1 [.int .u8 (s[pos].toNat : Int)] rfl rfl ?c1 ?c2 ?c3 ?c4 ?c5 ?_)
        case c1 => exact cell_one_new wr _ _
        case c2 => intro u hu; simp at hu; subst hu; rfl
        case c3 => unfold maxLen; omega
        case c4 => omega
        case c5 => have := hbel.size; simp; omega
        intro v' w2 hown2 hgrow _
        have hbel2 : Below w.heap.size w w2 := (hbel.alloc (hbel.size) _).grown hgrow (by have := hbel.size; simp; omega) (fun k hk => ((hown.alloc (.cells #[.int .u8 (s[pos].toNat : Int)] 5)).lt k hk).1)
        have hown3 : w2.ownsRow w.heap.size 5 1 v' (acc ++ [s[pos]]).length (Lib.byteCells (acc ++ [s[pos]])) := by rw [byteCells_one]; simpa using hown2
        clear hown hown2 hgrow hbel
        go_wp2_with fail
        go_roundw
        case rel => exact ⟨pos + 1, acc ++ [s[pos]], by go_num, by omega, hown3, hbel2, HE.out, by simp; omega⟩
        case measure => simp [intOf]; omega
    · have HE : Hid (([], pos, false) = Q) := by
        unfold Hid
        have e : s.data.toList.drop pos = [] := List.drop_eq_nil_of_le (by rw [← Lib.size_eq]; omega)
        rw [← HR.out, e]; rfl
      have HP : Hid (s.size = pos) := by unfold Hid; omega
      go_wp2_with fail
      go_ret3
      rw [← HE.out, HP.out]
      exact ⟨_, rfl, World.ownsRow_nil _ _ _ _, hbel⟩

end Go.Proofs.Ytlknklpjlljfjaa
