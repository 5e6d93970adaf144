/-
  A set out of numbers, the numbers of a set.
-/
import Derived.Test.YtodldfgoieikcaaMc
namespace Go.Proofs.Ytodldfgoieikcaa
open Go.RowKit Go.Maps

def allN (E : List Int) : Bool := E.all isN
def stI (E : List Int) : Nat → Bool := fun j => inB E (j : Int)
theorem stI_nil : stI [] = s0 := by
  funext j
  unfold stI s0
  rw [inB_no]
  simp
theorem stI_succ {E : List Int} {k i : Nat} (h : E[k]? = some (i : Int)) : sset (stI (E.take k)) i true = stI (E.take (k + 1)) := by
  funext j
  have hl := (List.getElem?_eq_some_iff.1 h).1
  unfold sset stI
  by_cases e : j = i
  · rw [if_pos e]
    symm
    rw [inB_iff, List.take_add_one, h]
    simp [e]
  · rw [if_neg e]
    cases hq : inB (E.take k) (j : Int)
    · rw [inB_no] at hq
      symm
      rw [inB_no, List.take_add_one, h]
      simp
      exact ⟨hq, by omega⟩
    · rw [inB_iff] at hq
      symm
      rw [inB_iff, List.take_add_one]
      exact List.mem_append_left _ hq
def setR (E : List Int) : Value := if allN E then .tuple #[.agg (sA (stI E)), .bool true] else .tuple #[.agg (sA s0), .bool false]
set_option maxHeartbeats 1000000 in
set_option maxRecDepth 100000 in
theorem setof_any (w : World) (q : Option Addr) (n c : Nat) (E : List Int) (hn : n = E.length) (hE : AI w q E) (h9 : n ≤ 1152921504606846976) :
    Calls Try.prog 28 #[.slice q n c] w fun e w' => e = .returned (setR E) ∧ Below w.heap.size w w' := by
  have HE : Hid (n = E.length ∧ AI w q E) := ⟨hn, hE⟩
  have HI : Hid (∀ x w, Calls Try.prog 29 #[.int .i64 x] w fun e w' => e = .returned (.bool (isN x)) ∧ w' = w) := isn_any
  clear hn hE
  have hz := zero49
  go_enter Try.func28, Try.ntmps28
  go_wp2_with fail
  have R1 : Hid (Sx ((w.alloc (.cells (sA s0) 49)).alloc (.cells (sA s0) 49)) w.heap.size s0 ∧ Sx ((w.alloc (.cells (sA s0) 49)).alloc (.cells (sA s0) 49)) (w.heap.size + 1) s0 ∧ Below w.heap.size w ((w.alloc (.cells (sA s0) 49)).alloc (.cells (sA s0) 49))) := ⟨(sx_new w _ _ rfl).alloc _, sx_new _ _ _ (by simp), by go_grown⟩
  generalize (w.alloc (.cells (sA s0) 49)).alloc (.cells (sA s0) 49) = W at *
  clear hz
  go_loopw [9] (fun t wr => ∃ k : Nat, t = .int .i64 k ∧ k ≤ n ∧ Hid (Sx wr w.heap.size s0 ∧ Sx wr (w.heap.size + 1) (stI (E.take k)) ∧ Below w.heap.size w wr ∧ ∀ (j : Nat) (x : Int), j < k → E[j]? = some x → isN x = true)) (fun t _ => n - (intOf t).toNat)
  case atStart => exact ⟨0, rfl, Nat.zero_le _, R1.out.1, by rw [List.take_zero, stI_nil]; exact R1.out.2.1, R1.out.2.2, fun j _ hj => absurd hj (by omega)⟩
  case round =>
    clear R1
    obtain ⟨k, rfl, hkn, HK⟩ := hrel
    by_cases hk : k < n
    · have hk' : (k : Int) < (n : Int) := by omega
      obtain ⟨y, hy⟩ : ∃ y, E[k]? = some y := ⟨_, List.getElem?_eq_getElem (by have := HE.out.1; omega)⟩
      obtain ⟨g, o, rfl, hc⟩ := HE.out.2.below HK.out.2.2.1 k y hy
      cases hx : isN y
      · have HX : Hid (allN E = false) := by
          show allN E = false
          unfold allN
          rw [List.all_eq_false]
          exact ⟨y, List.mem_of_getElem? hy, by simp [hx]⟩
        have HS := HK.out.1
        have HB : Hid (Below w.heap.size w wr) := HK.out.2.2.1
        have HS2 : Hid (Sx (wr.setRow w.heap.size (sA s0)) w.heap.size s0) := HS.setRow
        clear hy
        go_upto_region 6 with (go_at_call 29; refine (HI.out _ _).mono ?_; rintro e w1 ⟨rfl, rfl⟩; rw [hx])
        go_wp2_with (first
          | refine build_s0 rfl rfl ?_
          | refine wpList_store_row rfl 49 _ _ rfl w.heap.size (sA s0) rfl rfl 49 (sA s0) HS (size49 _) rfl (sA_one _) ?_)
        refine bodyPost_ret (v := .tuple #[.agg (sA s0), .bool false]) (by rw [results_cell_tmp rfl]; simp [asAddr]; rw [run_loadVar_row _ w.heap.size 49 49 (sA s0) (0, 0) _ HS2.out Try.underlying49 rfl (size49 _)]; rfl) rfl ?_
        refine ⟨?_, below_setRow HB.out (Nat.le_refl _)⟩
        unfold setR
        rw [HX.out]
        rfl
      · obtain ⟨i, rfl, hi1, hi2⟩ := isN_nat hx
        have hi' : (i : Int) < 101 := by omega
        have c0 := HK.out.2.1.cell i hi2
        have f0 := HK.out.2.1.fz i
        have HN : Hid (Sx (wr.setCell ⟨w.heap.size + 1, i, none⟩ (.bool true)) w.heap.size s0 ∧ Sx (wr.setCell ⟨w.heap.size + 1, i, none⟩ (.bool true)) (w.heap.size + 1) (stI (E.take (k + 1))) ∧ Below w.heap.size w (wr.setCell ⟨w.heap.size + 1, i, none⟩ (.bool true)) ∧ ∀ (j : Nat) (x : Int), j < k + 1 → E[j]? = some x → isN x = true) := by
          refine ⟨HK.out.1.other _ _ (by simp), ?_, HK.out.2.2.1.setCell (by simp) _, fun j x hj hjx => ?_⟩
          · rw [← stI_succ hy]; exact HK.out.2.1.set i true
          · by_cases e : j = k
            · subst e; rw [hy] at hjx; cases hjx; exact hx
            · exact HK.out.2.2.2 j x (by omega) hjx
        clear hy
        go_wp2_with (go_at_call 29; refine (HI.out _ _).mono ?_; rintro e w1 ⟨rfl, rfl⟩; rw [hx])
        refine ⟨⟨k + 1, by simp, by omega, HN.out⟩, ?_⟩
        simp [intOf]
        omega
    · have hk' : ¬ (k : Int) < (n : Int) := by omega
      have hke : k = E.length := by have := HE.out.1; omega
      have HX : Hid (allN E = true) := by
        show allN E = true
        unfold allN
        rw [List.all_eq_true]
        intro x hx
        obtain ⟨j, hj⟩ := List.getElem?_of_mem hx
        exact HK.out.2.2.2 j x (by have := (List.getElem?_eq_some_iff.1 hj).1; omega) hj
      have HS := HK.out.1
      have HS1 := HK.out.2.1
      rw [hke, List.take_length] at HS1
      have HB : Hid (Below w.heap.size w wr) := HK.out.2.2.1
      have HS2 : Hid (Sx (wr.setRow w.heap.size (sA (stI E))) w.heap.size (stI E)) := HS.setRow
      have hsz : (sA s0).size = (sA (stI E)).size := by rw [sA_size, sA_size]
      clear hke
      go_upto_region 9 with fail
      go_wp2_with (first
          | refine wpList_load_row rfl 49 _ rfl (w.heap.size + 1) rfl 49 (sA (stI E)) (0, 0) _ HS1 Try.underlying49 rfl (size49 _) ?_
          | refine wpList_store_row rfl 49 _ _ rfl w.heap.size (sA (stI E)) rfl rfl 49 (sA s0) HS (size49 _) hsz (sA_one _) ?_)
      refine bodyPost_ret (v := .tuple #[.agg (sA (stI E)), .bool true]) (by rw [results_cell_tmp rfl]; simp [asAddr]; rw [run_loadVar_row _ w.heap.size 49 49 (sA (stI E)) (0, 0) _ HS2.out Try.underlying49 rfl (size49 _)]; rfl) rfl ?_
      refine ⟨?_, below_setRow HB.out (Nat.le_refl _)⟩
      unfold setR
      rw [HX.out]
      rfl

end Go.Proofs.Ytodldfgoieikcaa
