/-
  formedMembers of vectors, formedParents.
-/
import Derived.Test.YtnkkiepoljbhlaaFmi
namespace Go.Proofs.Ytnkkiepoljbhlaa
open Go.RowKit

def V4.fm (v : V4) : Bool := Ytnkkiepoljbhlaa.fm v.a v.b v.c v.d
theorem all_dropV {L : List V4} {k : Nat} {x : V4} (f : V4 → Bool) (h : L[k]? = some x) : (L.drop k).all f = (f x && (L.drop (k + 1)).all f) := by
  obtain ⟨hk, rfl⟩ := List.getElem?_eq_some_iff.1 h
  rw [List.drop_eq_getElem_cons hk, List.all_cons]
set_option maxHeartbeats 1000000 in
set_option maxRecDepth 100000 in
theorem vmembers_at (L : List V4) (g o c n : Nat) (w : World) (hL : Hid (L.length = n)) (h1 : 1 ≤ n) (h6 : n ≤ 6) (hr : Hid (RowV w g o (flat L))) :
    Calls Try.prog 68 #[.slice (some ⟨g, o, none⟩) n c, .func (.func 42) #[] #[]] w fun e w' => e = .returned (.bool (L.all V4.fm)) ∧ Below w.heap.size w w' := by
  have g1 : ¬ (n : Int) < 1 := by omega
  have g6 : ¬ (6 : Int) < n := by omega
  go_enter Try.func68, Try.ntmps68
  go_wp2_with fail
  go_loopw [17] (fun i wr => ∃ k : Nat, k ≤ n ∧ i = .int .i64 k ∧ L.all V4.fm = (L.drop k).all V4.fm ∧ Below w.heap.size w wr) (fun i _ => n - (intOf i).toNat)
  case atStart => exact ⟨0, Nat.zero_le _, rfl, rfl, Below.refl _ _⟩
  case round =>
    obtain ⟨k, hk, rfl, ha, hb⟩ := hrel
    have HB : Hid (Below w.heap.size w wr) := hb
    have HA : Hid (L.all V4.fm = (L.drop k).all V4.fm) := ha
    clear hb ha
    by_cases hlt : k < n
    · obtain ⟨x, hx⟩ : ∃ x, L[k]? = some x := ⟨L[k]'(by have := hL.out; omega), List.getElem?_eq_getElem _⟩
      obtain ⟨t0, t1, t2, t3⟩ := row_vec (hr.out.keep HB.out (Nat.le_refl _)) hx
      have hi : (k : Int) < (n : Int) := by omega
      have HD : Hid (L.all V4.fm = (x.fm && (L.drop (k + 1)).all V4.fm)) := by unfold Hid; rw [HA.out]; exact all_dropV _ hx
      have H42 : Hid (∀ w, Calls Try.prog 42 #[.agg #[.int .i64 x.a, .int .i64 x.b, .int .i64 x.c, .int .i64 x.d]] w fun e w' => e = .returned (.bool x.fm) ∧ Below w.heap.size w w') := fun w => vformed_any _ _ _ _ w
      clear hx
      generalize hb : x.fm = b at *
      clear hb
      go_wp2_with (go_at_call 42; refine (H42.out _).mono ?_)
      rintro e w1 ⟨rfl, b1⟩
      have y1 : Hid (Below w.heap.size w w1) := below_from (HB.out.alloc HB.out.size _) b1 (by have := HB.out.size; simp; omega)
      clear b1 t0 t1 t2 t3
      cases b with
      | false =>
        go_wp2_with fail
        go_ret
        exact ⟨ret_b (by rw [HD.out]; rfl), y1.out⟩
      | true =>
        go_wp2_with fail
        refine ⟨⟨k + 1, by omega, by go_num, by rw [HD.out, Bool.true_and], y1.out⟩, ?_⟩
        simp [intOf]; omega
    · have HE : Hid (L.all V4.fm = true) := by unfold Hid; rw [HA.out, List.drop_of_length_le (by have := hL.out; omega)]; rfl
      go_wp2_with fail
      go_ret
      exact ⟨ret_b HE.out.symm, HB.out⟩

end Go.Proofs.Ytnkkiepoljbhlaa
