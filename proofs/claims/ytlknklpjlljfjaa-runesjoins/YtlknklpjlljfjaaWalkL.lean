/-
  The contracts of strings.IndexAny and ContainsAny at a blank and a quotation mark, at every string; of strings.Clone.
-/
import Derived.Test.YtlknklpjlljfjaaWalkK
namespace Go.Proofs.Ytlknklpjlljfjaa
open Go.RowKit

def two : List UInt8 := [32, 34]

theorem noany_more {l : List UInt8} {i n : Nat} (h : Lib.NoAny l two i) (hn : ∀ j b, i ≤ j → j < i + n → l[j]? = some b → two.contains b = false) : Lib.NoAny l two (i + n) := by
  intro j b hj hb
  by_cases e : j < i
  · exact h j b e hb
  · exact hn j b (by omega) hj hb

theorem high_not {b : UInt8} (h : 128 ≤ b.toNat) : two.contains b = false := by
  simp only [two, List.contains_cons, List.contains_nil, Bool.or_false, Bool.or_eq_false_iff, beq_eq_false_iff_ne]
  constructor
  · rintro rfl; simp at h
  · rintro rfl; simp at h

theorem get_of_drop {l : List UInt8} {i j : Nat} {b : UInt8} (hi : i ≤ j) (h : l[j]? = some b) : (l.drop i)[j - i]? = some b := by
  rw [List.getElem?_drop, show i + (j - i) = j from by omega]; exact h

theorem two_eq : (⟨#[32, 34]⟩ : ByteArray).data.toList = two := rfl

theorem idx_ascii (r : Nat) (w : World) (h : r < 128) (z : Int) (hz : Lib.indexByte two r.toUInt8 = z) :
    Calls Try.prog 41 #[.string ⟨#[32, 34]⟩, .int .i32 r] w fun e w' => e = .returned (.int .i64 z) ∧ w' = w := by
  have := Try.strings_IndexRune_ascii ⟨#[32, 34]⟩ r w (by omega) (by omega)
  rw [two_eq, Int.toNat_natCast, hz] at this
  exact this

set_option maxHeartbeats 2000000 in
set_option maxRecDepth 100000 in
theorem idxany_short (s : ByteArray) (w : World) (hs : s.size ≤ 8) :
    Calls Try.prog 37 #[.string s, .string ⟨#[32, 34]⟩] w fun e w' => e = .returned (.int .i64 (Lib.indexAny s.data.toList two)) ∧ Below w.heap.size w w' := by
  have HS : Hid (∀ w, Calls Try.prog 42 #[.int .i64 s.size] w fun e w' => e = .returned (.bool false) ∧ w' = w) := by
    intro w
    have := Try.strings_shouldUseASCIISet s.size w
    rw [show decide (8 < (s.size : Int)) = false from by simp; omega] at this
    exact this
  go_enter Try.func37, Try.ntmps37
  go_wp2_with (go_at_call 42; refine (HS.out _).mono ?_; rintro e w' ⟨rfl, rfl⟩)
  go_loopw [] (fun wr => ∃ pos, pos ≤ s.size ∧ wr.heap[w'.heap.size]? = some (.stringIter s pos) ∧ Below w'.heap.size w' wr ∧ Lib.NoAny s.data.toList two pos) (fun wr => s.size - wr.iterPos w'.heap.size)
  case atStart => exact ⟨0, by omega, World.iter_heap w' s 0, iter_below w' s 0, Lib.NoAny.zero _ _⟩
  case round =>
    obtain ⟨pos, hpl, hit, hbel, hno⟩ := hrel
    have HNO : Hid (Lib.NoAny s.data.toList two pos) := hno
    clear hno
    have hlt : w'.heap.size < wr.heap.size := (Array.getElem?_eq_some_iff.1 hit).1
    by_cases hp : pos < s.size
    · have HNE : Hid (s.data.toList.drop pos ≠ []) := drop_ne s pos hp
      have HGE : Hid (s.data.toList[pos]? = some s[pos]) := List.getElem?_eq_getElem (by rw [← Lib.size_eq]; exact hp)
      have HA0 : Hid (Txt.at' (s.data.toList.drop pos) 0 = s[pos].toNat) := Txt.at_get s pos 0 hp
      have hdec := Txt.decode_seq s pos
      have hmeas : ∀ (n : Nat) (w2 : World), 1 ≤ n → n ≤ s.size - pos → w2.heap[w'.heap.size]? = some (.stringIter s (pos + n)) → s.size - w2.iterPos w'.heap.size < s.size - wr.iterPos w'.heap.size := by
        intro n w2 h1 h2 hw'
        simp only [World.iterPos, hw', hit]
        omega
      have HME : Hid (∀ (n : Nat) (w2 : World), 1 ≤ n → n ≤ s.size - pos → w2.heap[w'.heap.size]? = some (.stringIter s (pos + n)) → s.size - w2.iterPos w'.heap.size < s.size - wr.iterPos w'.heap.size) := hmeas
      clear hmeas
      have hlow : ∀ n : Nat, Below w'.heap.size w' (wr.iterAt w'.heap.size s (pos + n)) ∧ (wr.iterAt w'.heap.size s (pos + n)).heap[w'.heap.size]? = some (.stringIter s (pos + n)) ∧ (wr.iterAt w'.heap.size s (pos + n)).heap.size = wr.heap.size := fun n =>
        ⟨Lib.below_iterAt hbel (Nat.le_refl _) _ _, Lib.iterAt_heap _ _ _ _ _ hit, Lib.iterAt_size _ _ _ _⟩
      cases hq : Txt.seq (s.data.toList.drop pos) with
      | none =>
        rw [hq] at hdec
        have hnx : ∀ ty, (Instr.next (.pointer (some ⟨w'.heap.size, 0, none⟩)) true ty).run Try.prog wr = .ok (.tuple #[.bool true, .int .i64 pos, .int .i32 65533]) (wr.iterAt w'.heap.size s (pos + 1)) := fun ty => by
          rw [Lib.run_next_any_at wr w'.heap.size s pos ty hit hp, hdec]; rfl
        have HNO2 : Hid (Lib.NoAny s.data.toList two (pos + 1)) := by
          refine Lib.NoAny.succ HNO.out HGE.out (high_not ?_)
          rcases Nat.lt_or_ge s[pos].toNat 128 with h | h
          · rw [Txt.seq_ascii (by rw [HA0.out]; exact h)] at hq; cases hq
          · exact h
        obtain ⟨hb1, hit1, hsz1⟩ := hlow 1
        generalize wr.iterAt w'.heap.size s (pos + 1) = w1 at hnx hb1 hit1 hsz1
        clear hq hdec hlow
        go_wp2_with (go_at_call 41; refine (idx_err _).mono ?_)
        rintro e w2 ⟨rfl, hb2⟩
        have hit2 : w2.heap[w'.heap.size]? = some (.stringIter s (pos + 1)) := by rw [hb2.block _ (by omega)]; exact hit1
        have hb3 : Below w'.heap.size w' w2 := hb1.trans (hb2.mono (by omega))
        go_wp2_with fail
        go_roundw
        case rel => exact ⟨pos + 1, by omega, hit2, hb3, HNO2.out⟩
        case measure => exact HME.out 1 _ (by omega) (by omega) hit2
      | some x =>
        obtain ⟨r, n⟩ := x
        rw [hq] at hdec
        have hnx : ∀ ty, (Instr.next (.pointer (some ⟨w'.heap.size, 0, none⟩)) true ty).run Try.prog wr = .ok (.tuple #[.bool true, .int .i64 pos, .int .i32 r]) (wr.iterAt w'.heap.size s (pos + n)) := fun ty => by
          rw [Lib.run_next_any_at wr w'.heap.size s pos ty hit hp, hdec]; rfl
        have HQ : Hid (Txt.seq (s.data.toList.drop pos) = some (r, n)) := hq
        have hwd := Txt.seq_width HNE.out HQ.out
        rw [drop_len] at hwd
        have hru := Txt.seq_rune HQ.out
        obtain ⟨hb1, hit1, hsz1⟩ := hlow n
        generalize wr.iterAt w'.heap.size s (pos + n) = w1 at hnx hb1 hit1 hsz1
        clear hq hdec hlow
        by_cases hn1 : n = 1
        · subst hn1
          obtain ⟨b, m, hbm, hbr, hr128⟩ := Txt.take_one HNE.out HQ.out
          have hsb : s[pos].toNat = r := by
            have := HA0.out
            rw [hbm] at this
            simp [Txt.at'] at this
            omega
          have hsu : s[pos] = r.toUInt8 := by rw [← hsb]; simp
          clear hbm hbr
          by_cases hc : two.contains s[pos] = true
          · have HF : Hid (Lib.indexAny s.data.toList two = pos) := Lib.indexAny_hit HNO.out HGE.out hc
            obtain ⟨z, hz, hz0⟩ : ∃ z : Int, Lib.indexByte two r.toUInt8 = z ∧ 0 ≤ z := by
              refine ⟨_, rfl, ?_⟩
              rw [← hsu]
              simp only [two, List.contains_cons, List.contains_nil, Bool.or_false, Bool.or_eq_true, beq_iff_eq] at hc
              rcases hc with h | h
              · rw [h]; decide
              · rw [h]; decide
            have HZ : Hid (Lib.indexByte two r.toUInt8 = z) := hz
            clear hz hsb hsu hc
            go_wp2_with (go_at_call 41; refine (idx_ascii r _ hr128 z HZ.out).mono ?_; rintro e w2 ⟨rfl, rfl⟩)
            go_ret
            rw [HF.out]
            exact ⟨rfl, hb1⟩
          · rw [Bool.not_eq_true] at hc
            have HNO2 : Hid (Lib.NoAny s.data.toList two (pos + 1)) := Lib.NoAny.succ HNO.out HGE.out hc
            have HZ : Hid (Lib.indexByte two r.toUInt8 = -1) := by
              unfold Hid
              rw [← hsu]
              simp only [two, List.contains_cons, List.contains_nil, Bool.or_false, Bool.or_eq_false_iff, beq_eq_false_iff_ne] at hc
              have e1 : (32 == s[pos]) = false := by simpa using Ne.symm hc.1
              have e2 : (34 == s[pos]) = false := by simpa using Ne.symm hc.2
              simp [two, Lib.indexByte, e1, e2]
            clear hsb hsu hc
            go_wp2_with (go_at_call 41; refine (idx_ascii r _ hr128 (-1) HZ.out).mono ?_; rintro e w2 ⟨rfl, rfl⟩)
            go_roundw
            case rel => exact ⟨pos + 1, by omega, hit1, hb1, HNO2.out⟩
            case measure => exact HME.out 1 _ (by omega) (by omega) hit1
        · obtain ⟨hhi, hr⟩ := Txt.take_high HNE.out HQ.out (by omega)
          have hsur : ¬ (55296 ≤ r ∧ r ≤ 57343) := by
            rcases Txt.seq_some HQ.out with h | h | h | h
            · omega
            · have := h.2.2.2.1; unfold Txt.v2 at this; omega
            · omega
            · omega
          have HNO2 : Hid (Lib.NoAny s.data.toList two (pos + n)) := by
            refine noany_more HNO.out (fun j b h1 h2 hb => high_not (hhi b ?_))
            have := get_of_drop h1 hb
            exact List.mem_iff_getElem?.2 ⟨j - pos, by rw [List.getElem?_take, if_pos (by omega)]; exact this⟩
          clear hhi
          go_wp2_with (go_at_call 41; refine (idx_high r _ hr hru hsur).mono ?_)
          rintro e w2 ⟨rfl, hb2⟩
          have hit2 : w2.heap[w'.heap.size]? = some (.stringIter s (pos + n)) := by rw [hb2.block _ (by omega)]; exact hit1
          have hb3 : Below w'.heap.size w' w2 := hb1.trans (hb2.mono (by omega))
          go_wp2_with fail
          go_roundw
          case rel => exact ⟨pos + n, by omega, hit2, hb3, HNO2.out⟩
          case measure => exact HME.out n _ (by omega) (by omega) hit2
    · have HF : Hid (Lib.indexAny s.data.toList two = -1) := by
        refine Lib.indexAny_none ?_
        rw [← Lib.size_eq, show s.size = pos from by omega]
        exact HNO.out
      have hnx : ∀ ty, (Instr.next (.pointer (some ⟨w'.heap.size, 0, none⟩)) true ty).run Try.prog wr = _ := fun ty => Lib.run_next_end_at wr w'.heap.size s pos ty hit hp
      go_wp2_with fail
      go_ret
      rw [HF.out]
      exact ⟨rfl, hbel⟩

end Go.Proofs.Ytlknklpjlljfjaa
