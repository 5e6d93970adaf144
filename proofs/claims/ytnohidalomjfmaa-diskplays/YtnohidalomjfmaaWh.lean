/-
  What a program that does nothing does not answer.
-/
import Derived.Test.YtnohidalomjfmaaWg
import Derived.Laws.IdiomStrings
import Derived.Lib.SlBytesConst
namespace Go.Proofs.Ytnohidalomjfmaa
open Go.RowKit Go.Maps Go.WideMaps

theorem str_of_own {w : World} {B : Nat} {v : Value} {l : List UInt8} (h : Own w B v l) (hl : l ≠ []) : (convert 30 9 v).run Try.prog w = .ok (.string ⟨l.toArray⟩) w := by
  obtain ⟨a, c, rfl, hL, -⟩ := h.shape
  rcases hL with h | ⟨g, o, rfl, hr⟩
  · exact absurd h hl
  · refine run_convert_bytes_back w 30 9 5 ⟨g, o, none⟩ c l Try.underlying30 Try.underlying5 Try.underlying9 fun j hj => ?_
    rw [Addr.add_lit]
    exact hr j _ (List.getElem?_eq_getElem hj)

theorem row_new {w : World} {l : List UInt8} {fr : Nat × Nat} : Row (w.alloc (.cells ⟨bv l⟩ 5 fr)) w.heap.size 0 l := fun k x hx => by
  have h : (w.alloc (.cells ⟨bv l⟩ 5 fr)).heap[w.heap.size]? = some (.cells ⟨bv l⟩ 5 fr) := new0
  have := bv_get hx
  simp only [World.cell?, h, Nat.zero_add]
  simpa using this
/-- the disk with one file "a" with the byte x -/
def DK.aw : DK := ⟨[⟨[97], [120], 0⟩], false, none⟩
theorem aw_append : appendD DK.new [97] [120] = (0, DK.aw) := by rfl
theorem aw_read : readD DK.aw [97] = (0, [120]) := by rfl

set_option maxHeartbeats 1000000 in
set_option maxRecDepth 100000 in
theorem awake_any (w : World) : Calls Try.prog 9 #[] w fun e w' => e = .returned (.bool true) ∧ Below w.heap.size w w' := by
  have H11 : Hid (∀ w, Calls Try.prog 11 #[] w fun e w' => e = .returned (.pointer (some ⟨w.heap.size, 0, none⟩)) ∧ w' = w.alloc (.cells #[.map none, .bool false, .bool false, .int .i64 0] 55)) := fun w => new_at w
  go_enter Try.func9, Try.ntmps9
  go_wp2_with (go_at_call 11; refine (H11.out _).mono ?_)
  rintro e w1 ⟨rfl, e1⟩
  have D1 : Hid (Dsk w1 (tgN w.heap.size) w.heap.size DK.new) := dsk_new w w1 e1
  have y1 : Hid (Below w.heap.size w w1) := by rw [e1]; exact (Below.refl _ w).alloc (Nat.le_refl _) _
  have L1 : Hid (w.heap.size < w1.heap.size) := by rw [e1]; simp [Hid]
  clear e1
  have q33 := Lib.run_convert_bytes_const (P := Try.prog) w1 30 5 #[.int .u8 120] 1 1 Try.underlying30 Try.underlying5
  have b2 : Below w1.heap.size w1 (w1.alloc (.cells #[.int .u8 120] 5 (1, 2))) := (Below.refl _ w1).alloc (Nat.le_refl _) _
  have D2 : Hid (Dsk (w1.alloc (.cells #[.int .u8 120] 5 (1, 2))) (tgN w.heap.size) w.heap.size DK.new) := D1.out.keepB b2
  have y2 : Hid (Below w.heap.size w (w1.alloc (.cells #[.int .u8 120] 5 (1, 2)))) := below_from y1.out b2 y1.out.size
  have HL : Hid (LiesOff (w1.alloc (.cells #[.int .u8 120] 5 (1, 2))) (tgN w.heap.size) (some ⟨w1.heap.size, 0, none⟩) [120]) := .inr ⟨w1.heap.size, 0, rfl, row_new (l := [120]), by simp, by unfold tgN; rw [if_neg (by have := L1.out; omega)]⟩
  have S2 : Hid (w.heap.size < (w1.alloc (.cells #[.int .u8 120] 5 (1, 2))).heap.size) := by have := L1.out; simp [Hid]; omega
  clear b2
  have H16 : Hid (Calls Try.prog 16 #[.pointer (some ⟨w.heap.size, 0, none⟩), .string ⟨#[97]⟩, .slice (some ⟨w1.heap.size, 0, none⟩) 1 1] (w1.alloc (.cells #[.int .u8 120] 5 (1, 2))) fun e w' => e = .returned (.int .i64 0) ∧ ∃ tg', Dsk w' tg' w.heap.size DK.aw ∧ Step (tgN w.heap.size) tg' (w1.alloc (.cells #[.int .u8 120] 5 (1, 2))) w') := by
    have := append_any D2.out ⟨#[97]⟩ (by decide) (some ⟨w1.heap.size, 0, none⟩) 1 1 [120] (by decide) rfl nofun HL.out
    rw [show (⟨#[97]⟩ : ByteArray).data.toList = [97] from rfl, aw_append] at this
    exact this
  generalize hW : w1.alloc (.cells #[.int .u8 120] 5 (1, 2)) = W at *
  go_wp2_with (go_at_call 16; refine H16.out.mono ?_)
  rintro e w3 ⟨rfl, tg3, d3, st3⟩
  have y3 : Hid (Below w.heap.size w w3) := y2.out.trans (st3.below (Nat.le_of_lt S2.out) (fun k hk => Nat.le_of_eq (tgN_new hk).symm)).1
  have D3 : Hid (Dsk w3 tg3 w.heap.size DK.aw) := d3
  have H19 : Hid (Calls Try.prog 19 #[.pointer (some ⟨w.heap.size, 0, none⟩), .string ⟨#[97]⟩] w3 fun e w' => ∃ v, e = .returned (.tuple #[v, .int .i64 0]) ∧ Own w' w3.heap.size v [120] ∧ Below w3.heap.size w3 w') := by
    have := read_any d3 ⟨#[97]⟩ (by decide)
    rw [show (⟨#[97]⟩ : ByteArray).data.toList = [97] from rfl, aw_read] at this
    exact this
  clear d3 st3 q33 hW
  go_wp2_with (go_at_call 19; refine H19.out.mono ?_)
  rintro e w4 ⟨v, rfl, ho, b4⟩
  have D4 : Dsk w4 tg3 w.heap.size DK.aw := D3.out.keepB b4
  have H14 : Hid (Calls Try.prog 14 #[.pointer (some ⟨w.heap.size, 0, none⟩)] w4 fun e w' => e = .returned (.bool false) ∧ w' = w4) := by
    obtain ⟨mb, l, z, h⟩ := D4
    exact down_at w4 _ _ _ _ false h.cell
  have y4 : Hid (Below w.heap.size w w4) := below_from y3.out b4 y3.out.size
  have q39 := str_of_own ho nofun
  clear D4 ho b4
  go_wp2_with (go_at_call 14; refine H14.out.mono ?_)
  rintro e w5 ⟨rfl, rfl⟩
  go_wp2_with fail
  go_ret
  exact ⟨rfl, y4.out⟩
end Go.Proofs.Ytnohidalomjfmaa
