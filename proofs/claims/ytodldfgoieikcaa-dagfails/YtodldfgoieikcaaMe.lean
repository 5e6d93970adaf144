/-
  The numbers of a set.
-/
import Derived.Test.YtodldfgoieikcaaMc
namespace Go.Proofs.Ytodldfgoieikcaa
open Go.RowKit Go.Maps

/-- the numbers of a set below k, rising -/
def lsK (s : Nat → Bool) (k : Nat) : List Int := ((List.range k).filter s).map fun i : Nat => (i : Int)
def lsI (s : Nat → Bool) : List Int := lsK s 101
theorem lsK_yes {s : Nat → Bool} {k : Nat} (h : s k = true) : lsK s (k + 1) = lsK s k ++ [(k : Int)] := by
  unfold lsK
  rw [List.range_succ, List.filter_append]
  simp [h]
theorem lsK_no {s : Nat → Bool} {k : Nat} (h : s k = false) : lsK s (k + 1) = lsK s k := by
  unfold lsK
  rw [List.range_succ, List.filter_append]
  simp [h]
theorem lsK_len (s : Nat → Bool) (k : Nat) : (lsK s k).length ≤ k := by
  unfold lsK
  rw [List.length_map]
  exact Nat.le_trans (List.length_filter_le _ _) (by simp)
theorem lsI_len (s : Nat → Bool) : (lsI s).length ≤ 101 := lsK_len s 101
theorem lsK_mem {s : Nat → Bool} {k : Nat} {x : Int} : x ∈ lsK s k ↔ ∃ i : Nat, x = i ∧ i < k ∧ s i = true := by
  unfold lsK
  simp only [List.mem_map, List.mem_filter, List.mem_range]
  constructor
  · rintro ⟨i, ⟨h1, h2⟩, rfl⟩; exact ⟨i, rfl, h1, h2⟩
  · rintro ⟨i, rfl, h1, h2⟩; exact ⟨i, ⟨h1, h2⟩, rfl⟩
theorem lsK_ris (s : Nat → Bool) (k : Nat) : Ris (lsK s k) := by
  unfold lsK Ris
  rw [List.pairwise_map]
  refine List.Pairwise.filter _ ?_
  exact List.pairwise_lt_range.imp fun h => by omega
set_option maxHeartbeats 1000000 in
set_option maxRecDepth 100000 in
theorem list_any (w : World) (s : Nat → Bool) :
    Calls Try.prog 32 #[.agg (sA s)] w fun e w' => ∃ (p : Option Addr) (n c : Nat), e = .returned (.slice p n c) ∧ n ≤ 101 ∧ Hid (n = (lsI s).length ∧ IRow w.heap.size w' (.slice p n c) (lsI s) ∧ Below w.heap.size w w') := by
  go_enter Try.func32, Try.ntmps32
  have R1 : Hid (Sx (w.alloc (.cells (sA s) 49)) w.heap.size s) := sx_new w _ _ rfl
  have B1 : Hid (Below w.heap.size w (w.alloc (.cells (sA s) 49))) := (Below.refl _ w).alloc (Nat.le_refl _) _
  go_upto_region 2 with fail
  go_wp2_with (refine wpList_load_row rfl 49 _ rfl w.heap.size rfl 49 (sA s) (0, 0) _ R1.out Try.underlying49 rfl (size49 _) ?_)
  generalize w.alloc (.cells (sA s) 49) = W at *
  clear R1
  go_loopw [3, 7] (fun t3 t wr => ∃ (k : Nat) (p : Option Addr) (n c : Nat), t = .int .i64 k ∧ t3 = .slice p n c ∧ k ≤ 101 ∧ n ≤ 101 ∧ Hid (n = (lsK s k).length ∧ IRow w.heap.size wr (.slice p n c) (lsK s k) ∧ Below w.heap.size w wr)) (fun _ t _ => 101 - (intOf t).toNat)
  case atStart => exact ⟨0, none, 0, 0, rfl, rfl, Nat.zero_le _, Nat.zero_le _, rfl, IRow.nil _ _, B1.out⟩
  case round =>
    clear B1
    obtain ⟨k, p, n, c, rfl, rfl, hk1, hn1, HK⟩ := hrel
    by_cases hk : k < 101
    · have hk' : (k : Int) < 101 := by omega
      have hx := ix_at s hk
      cases hs : s k
      · rw [hs] at hx
        have HN : Hid (n = (lsK s (k + 1)).length ∧ IRow w.heap.size wr (.slice p n c) (lsK s (k + 1)) ∧ Below w.heap.size w wr) := by rw [lsK_no hs]; exact HK.out
        go_wp2_with fail
        refine ⟨⟨k + 1, p, n, c, by simp, rfl, by omega, by omega, HN.out⟩, ?_⟩
        simp [intOf]
        omega
      · rw [hs] at hx
        have HO : Hid (IRow w.heap.size (wr.alloc (.cells #[.int .i64 k] 2)) (.slice p n c) (lsK s k)) := HK.out.2.1.below ((Below.refl _ _).alloc (Nat.le_refl _) _)
        have HV : Hid ((wr.alloc (.cells #[.int .i64 k] 2)).cell? ⟨wr.heap.size, 0, none⟩ = some (.int .i64 k)) := by show World.cell? _ _ = _; rw [cell_of new0]; rfl
        have HB2 : Hid (Below w.heap.size w (wr.alloc (.cells #[.int .i64 k] 2))) := HK.out.2.2.alloc HK.out.2.2.size _
        have HL : Hid (n = (lsK s k).length) := HK.out.1
        clear HK
        go_wp2_with (at_builtin; refine append_one (wr := wr.alloc (.cells #[.int .i64 k] 2)) (B := w.heap.size) rfl _ _ rfl p n c (lsK s k) k rfl HO.out HB2.out.size wr.heap.size 1 rfl HV.out (by omega) ?_; intro g3 c3 w3 R3 hB3)
        have hl1 := lsK_len s (k + 1)
        have HN : Hid (n + 1 = (lsK s (k + 1)).length ∧ IRow w.heap.size w3 (.slice (some ⟨g3, 0, none⟩) (n + 1) c3) (lsK s (k + 1)) ∧ Below w.heap.size w w3) := by
          rw [lsK_yes hs]
          exact ⟨by rw [List.length_append, ← HL.out]; rfl, R3, HB2.out.trans hB3⟩
        refine ⟨⟨k + 1, some ⟨g3, 0, none⟩, n + 1, c3, by simp, rfl, by omega, by have := HN.out.1; omega, HN.out⟩, ?_⟩
        simp [intOf]
        omega
    · have hk' : ¬ (k : Int) < 101 := by omega
      have hke : Hid (k = 101) := by show k = 101; omega
      go_wp2_with fail
      go_ret
      have h := HK.out
      rw [hke.out] at h
      exact ⟨p, n, c, rfl, hn1, h⟩
end Go.Proofs.Ytodldfgoieikcaa
