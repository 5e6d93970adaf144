/-
  Lists of names: the reference's names, the program's formedMembers.
-/
import Derived.Test.YtnkkiepoljbhlaaFmd
import Derived.Test.YtnkkiepoljbhlaaCpy
namespace Go.Proofs.Ytnkkiepoljbhlaa
open Go.RowKit

theorem all_drop {L : List ByteArray} {k : Nat} {x : ByteArray} (f : ByteArray → Bool) (h : L[k]? = some x) : (L.drop k).all f = (f x && (L.drop (k + 1)).all f) := by
  obtain ⟨hk, rfl⟩ := List.getElem?_eq_some_iff.1 h
  rw [List.drop_eq_getElem_cons hk, List.all_cons]

set_option maxHeartbeats 1000000 in
set_option maxRecDepth 100000 in
theorem rnames_at (L : List ByteArray) (g o c n : Nat) (w : World) (hL : Hid (L.length = n)) (hn : n < 1152921504606846976) (hs : Hid (∀ s ∈ L, s.size ≤ 9223372036854775000)) (hr : Hid (RowV w g o (textsV L))) :
    Calls Try.prog 32 #[.slice (some ⟨g, o, none⟩) n c] w fun e w' => e = .returned (.bool (L.all Txt.name)) ∧ Below w.heap.size w w' := by
  go_enter Try.func32, Try.ntmps32
  go_wp2_with fail
  go_loopw [3] (fun i wr => ∃ k : Nat, k ≤ n ∧ i = .int .i64 k ∧ L.all Txt.name = (L.drop k).all Txt.name ∧ Below w.heap.size w wr) (fun i _ => n - (intOf i).toNat)
  case atStart => exact ⟨0, Nat.zero_le _, rfl, rfl, Below.refl _ _⟩
  case round =>
    obtain ⟨k, hk, rfl, ha, hb⟩ := hrel
    have HB : Hid (Below w.heap.size w wr) := hb
    have HA : Hid (L.all Txt.name = (L.drop k).all Txt.name) := ha
    clear hb ha
    by_cases hlt : k < n
    · obtain ⟨x, hx⟩ : ∃ x, L[k]? = some x := ⟨L[k]'(by have := hL.out; omega), List.getElem?_eq_getElem _⟩
      have h0 := hr.out.keep HB.out (Nat.le_refl _) k _ (texts_get hx)
      have hi : (k : Int) < (n : Int) := by omega
      have HD : Hid (L.all Txt.name = (Txt.name x && (L.drop (k + 1)).all Txt.name)) := by unfold Hid; rw [HA.out]; exact all_drop _ hx
      have HX : Hid (x.size ≤ 9223372036854775000) := hs.out x (List.mem_of_getElem? hx)
      clear hx
      cases hb : Txt.name x with
      | false =>
        have HN : Hid (Txt.name x = false) := hb
        clear hb
        go_wp2_with (go_at_call 28; refine (rname_is x false _ HX.out HN.out).mono ?_)
        rintro e w1 ⟨rfl, b1⟩
        go_wp2_with fail
        go_ret
        exact ⟨ret_b (by rw [HD.out, HN.out]; rfl), below_from HB.out b1 HB.out.size⟩
      | true =>
        have HN : Hid (Txt.name x = true) := hb
        clear hb
        go_wp2_with (go_at_call 28; refine (rname_is x true _ HX.out HN.out).mono ?_)
        rintro e w1 ⟨rfl, b1⟩
        have y1 : Hid _ := below_from HB.out b1 HB.out.size
        clear b1 h0
        go_wp2_with fail
        refine ⟨⟨k + 1, by omega, by go_num, by rw [HD.out, HN.out, Bool.true_and], y1.out⟩, ?_⟩
        simp [intOf]; omega
    · have HE : Hid (L.all Txt.name = true) := by unfold Hid; rw [HA.out, List.drop_of_length_le (by have := hL.out; omega)]; rfl
      go_wp2_with fail
      go_ret
      exact ⟨ret_b HE.out.symm, HB.out⟩

set_option maxHeartbeats 1000000 in
set_option maxRecDepth 100000 in
theorem members_at (L : List ByteArray) (g o c n : Nat) (w : World) (hL : Hid (L.length = n)) (h1 : 1 ≤ n) (h6 : n ≤ 6) (hs : Hid (∀ s ∈ L, s.size ≤ 9223372036854775000)) (hr : Hid (RowV w g o (textsV L))) :
    Calls Try.prog 45 #[.slice (some ⟨g, o, none⟩) n c, .func (.func 40) #[] #[]] w fun e w' => e = .returned (.bool (L.all Txt.name)) ∧ Below w.heap.size w w' := by
  have g1 : ¬ (n : Int) < 1 := by omega
  have g6 : ¬ (6 : Int) < n := by omega
  go_enter Try.func45, Try.ntmps45
  go_wp2_with fail
  go_loopw [17] (fun i wr => ∃ k : Nat, k ≤ n ∧ i = .int .i64 k ∧ L.all Txt.name = (L.drop k).all Txt.name ∧ Below w.heap.size w wr) (fun i _ => n - (intOf i).toNat)
  case atStart => exact ⟨0, Nat.zero_le _, rfl, rfl, Below.refl _ _⟩
  case round =>
    obtain ⟨k, hk, rfl, ha, hb⟩ := hrel
    have HB : Hid (Below w.heap.size w wr) := hb
    have HA : Hid (L.all Txt.name = (L.drop k).all Txt.name) := ha
    clear hb ha
    by_cases hlt : k < n
    · obtain ⟨x, hx⟩ : ∃ x, L[k]? = some x := ⟨L[k]'(by have := hL.out; omega), List.getElem?_eq_getElem _⟩
      have h0 := hr.out.keep HB.out (Nat.le_refl _) k _ (texts_get hx)
      have hi : (k : Int) < (n : Int) := by omega
      have HD : Hid (L.all Txt.name = (Txt.name x && (L.drop (k + 1)).all Txt.name)) := by unfold Hid; rw [HA.out]; exact all_drop _ hx
      have HX : Hid (x.size ≤ 9223372036854775000) := hs.out x (List.mem_of_getElem? hx)
      clear hx
      cases hb : Txt.name x with
      | false =>
        have HN : Hid (Txt.name x = false) := hb
        clear hb
        go_wp2_with (go_at_call 40; refine (name_is x false _ HX.out HN.out).mono ?_)
        rintro e w1 ⟨rfl, b1⟩
        go_wp2_with fail
        go_ret
        exact ⟨ret_b (by rw [HD.out, HN.out]; rfl), below_from HB.out b1 HB.out.size⟩
      | true =>
        have HN : Hid (Txt.name x = true) := hb
        clear hb
        go_wp2_with (go_at_call 40; refine (name_is x true _ HX.out HN.out).mono ?_)
        rintro e w1 ⟨rfl, b1⟩
        have y1 : Hid _ := below_from HB.out b1 HB.out.size
        clear b1 h0
        go_wp2_with fail
        refine ⟨⟨k + 1, by omega, by go_num, by rw [HD.out, HN.out, Bool.true_and], y1.out⟩, ?_⟩
        simp [intOf]; omega
    · have HE : Hid (L.all Txt.name = true) := by unfold Hid; rw [HA.out, List.drop_of_length_le (by have := hL.out; omega)]; rfl
      go_wp2_with fail
      go_ret
      exact ⟨ret_b HE.out.symm, HB.out⟩


end Go.Proofs.Ytnkkiepoljbhlaa
