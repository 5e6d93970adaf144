/-
  formedParents.
-/
import Derived.Test.YtnkkiepoljbhlaaFmj
namespace Go.Proofs.Ytnkkiepoljbhlaa
open Go.RowKit

/-- parents: rising, in bounds, none of them the job itself -/
def par (id : Int) : Int → List Int → Bool
  | _, [] => true
  | q, x :: r => decide (q < x ∧ x ≤ 100 ∧ x ≠ id) && par id x r
theorem par_drop {L : List Int} {k : Nat} {x : Int} (id q : Int) (h : L[k]? = some x) : par id q (L.drop k) = (decide (q < x ∧ x ≤ 100 ∧ x ≠ id) && par id x (L.drop (k + 1))) := by
  obtain ⟨hk, rfl⟩ := List.getElem?_eq_some_iff.1 h
  rw [List.drop_eq_getElem_cons hk, par]
set_option maxHeartbeats 1000000 in
set_option maxRecDepth 100000 in
theorem parents_at (L : List Int) (id pr rt st at' sr : Int) (tn : ByteArray) (tk nd dn : SL) (g o c n : Nat) (w : World) (hL : Hid (L.length = n)) (h4 : n ≤ 4) (hr : Hid (RowV w g o (intsV L))) :
    Calls Try.prog 67 #[.agg #[.int .i64 id, .string tn, .int .i64 pr, .int .i64 rt, .slice (some ⟨g, o, none⟩) n c, .slice tk.a tk.n tk.c, .int .i64 st, .int .i64 at', .slice nd.a nd.n nd.c, .int .i64 sr, .slice dn.a dn.n dn.c]] w fun e w' => e = .returned (.bool (par id 0 L)) ∧ Below w.heap.size w w' := by
  have g4 : ¬ (4 : Int) < n := by omega
  go_enter Try.func67, Try.ntmps67
  go_upto_region 1 with fail
  have P1 : Hid _ := new0 (w := w) (o := .cells #[.int .i64 id, .string tn, .int .i64 pr, .int .i64 rt, .slice (some ⟨g, o, none⟩) n c, .slice tk.a tk.n tk.c, .int .i64 st, .int .i64 at', .slice nd.a nd.n nd.c, .int .i64 sr, .slice dn.a dn.n dn.c] 30)
  have y1 : Hid (Below w.heap.size w (w.alloc (.cells #[.int .i64 id, .string tn, .int .i64 pr, .int .i64 rt, .slice (some ⟨g, o, none⟩) n c, .slice tk.a tk.n tk.c, .int .i64 st, .int .i64 at', .slice nd.a nd.n nd.c, .int .i64 sr, .slice dn.a dn.n dn.c] 30))) := (Below.refl _ w).alloc (Nat.le_refl _) _
  generalize w.alloc (.cells #[.int .i64 id, .string tn, .int .i64 pr, .int .i64 rt, .slice (some ⟨g, o, none⟩) n c, .slice tk.a tk.n tk.c, .int .i64 st, .int .i64 at', .slice nd.a nd.n nd.c, .int .i64 sr, .slice dn.a dn.n dn.c] 30) = W at *
  obtain ⟨e0, e1, e2, e3, e4, e5, e6, e7, e8, e9, e10⟩ := c11a P1.out
  clear e1 e2 e3 e5 e6 e7 e8 e9 e10
  have HR : Hid (RowV W g o (intsV L)) := hr.out.keep y1.out (Nat.le_refl _)
  go_wp2_with fail
  go_loop [3, 13] (fun v i => ∃ (k : Nat) (q : Int), k ≤ n ∧ v = .int .i64 q ∧ i = .int .i64 k ∧ par id 0 L = par id q (L.drop k)) (fun _ i => n - (intOf i).toNat)
  case atStart => exact ⟨0, 0, Nat.zero_le _, rfl, rfl, rfl⟩
  case round =>
    obtain ⟨k, q, hk, rfl, rfl, ha⟩ := hrel
    have HA : Hid (par id 0 L = par id q (L.drop k)) := ha
    clear ha
    by_cases hlt : k < n
    · obtain ⟨x, hx⟩ : ∃ x, L[k]? = some x := ⟨L[k]'(by have := hL.out; omega), List.getElem?_eq_getElem _⟩
      have t0 := HR.out k _ (ints_get hx)
      have hi : (k : Int) < (n : Int) := by omega
      have HD : Hid (par id 0 L = (decide (q < x ∧ x ≤ 100 ∧ x ≠ id) && par id x (L.drop (k + 1)))) := by unfold Hid; rw [HA.out]; exact par_drop _ _ hx
      clear hx
      by_cases f1 : x ≤ q
      · have HF : Hid (decide (q < x ∧ x ≤ 100 ∧ x ≠ id) = false) := by unfold Hid; simp; omega
        go_wp2_with fail
        go_ret
        exact ⟨ret_b (by rw [HD.out, HF.out]; rfl), y1.out⟩
      · by_cases f2 : 100 < x
        · have HF : Hid (decide (q < x ∧ x ≤ 100 ∧ x ≠ id) = false) := by unfold Hid; simp; omega
          have f3 : decide (x ≤ q) = false := by simp; omega
          go_wp2_with fail
          go_ret
          exact ⟨ret_b (by rw [HD.out, HF.out]; rfl), y1.out⟩
        · have f3 : decide (x ≤ q) = false := by simp; omega
          have f4 : decide (100 < x) = false := by simp; omega
          by_cases f5 : x = id
          · have HF : Hid (decide (q < x ∧ x ≤ 100 ∧ x ≠ id) = false) := by unfold Hid; simp; omega
            have f6 : (x == id) = true := by simpa using f5
            clear f5
            go_wp2_with fail
            go_ret
            exact ⟨ret_b (by rw [HD.out, HF.out]; rfl), y1.out⟩
          · have HF : Hid (decide (q < x ∧ x ≤ 100 ∧ x ≠ id) = true) := by unfold Hid; simp; omega
            have f6 : (x == id) = false := by simpa using f5
            go_wp2_with fail
            refine ⟨⟨k + 1, x, by omega, rfl, by go_num, by rw [HD.out, HF.out, Bool.true_and]⟩, ?_⟩
            simp [intOf]; omega
    · have HE : Hid (par id 0 L = true) := by unfold Hid; rw [HA.out, List.drop_of_length_le (by have := hL.out; omega)]; rfl
      go_wp2_with fail
      go_ret
      exact ⟨ret_b HE.out.symm, y1.out⟩

end Go.Proofs.Ytnkkiepoljbhlaa
