/-
  The contracts of the reference's arithmetic on 256 bits: the sum.
-/
import Derived.Test.YtfcegoibelokpaaWalkH
import Derived.Test.YtfcegoibelokpaaBig
import Derived.Deep.WholeRow
namespace Go.Proofs.Ytfcegoibelokpaa
open Go.RowKit Big

theorem info48 : (Try.prog.info? 48).map (fun i => (i.zero, i.size)) = some (some (.agg (Array.replicate 256 (.bool false))), 256) := by kernel_rfl
theorem zero48 : ∀ w, (zeroValue 48).run Try.prog w = .ok (.agg (bigR 0)) w := by
  rw [bigR_zero]; exact (zero_of_info info48).1
theorem size48 (x : W) : (Try.prog.info? 48).map (·.size) = some (bigR x).size := by rw [bigR_size]; exact (zero_of_info info48).2
theorem one48 (x : W) : (bigR x).all (·.oneCell') = true := by
  rw [Array.all_eq_true]
  intro i hi
  rw [bigR_size] at hi
  have := bigR_get x i hi
  rw [Array.getElem?_eq_some_iff] at this
  obtain ⟨h, e⟩ := this
  rw [e]
  rfl

/-- a block that holds a row of 256 cells -/
def Row (w : World) (g : Nat) (c : Array Value) : Prop := w.heap[g]? = some (.cells c 48 (0, 0))

theorem Row.cell {w : World} {g : Nat} {c : Array Value} (h : Row w g c) (k : Nat) : w.cell? ⟨g, k, none⟩ = c[k]? := Lib.cell_of_heap h k
theorem Row.frozen {w : World} {g : Nat} {c : Array Value} (h : Row w g c) (k : Nat) : w.frozen? ⟨g, k, none⟩ = false := Lib.frozen_of_heap h k
theorem Row.drewN {w : World} {g : Nat} {c : Array Value} (h : Row w g c) (n : Nat) : Row (w.drewN n) g c := h
theorem Row.set {w : World} {g : Nat} {c : Array Value} (h : Row w g c) (k : Nat) (v : Value) : Row (w.setCell ⟨g, k, none⟩ v) g (c.setIfInBounds k v) := heap_setCell_same w g k c 48 v h
theorem Row.other {w : World} {g g' : Nat} {c : Array Value} (h : Row w g c) (k : Nat) (v : Value) (hne : g ≠ g') : Row (w.setCell ⟨g', k, none⟩ v) g c := (Below.heap_setCell _ _ _ _ hne).trans h
theorem Row.lt {w : World} {g : Nat} {c : Array Value} (h : Row w g c) : g < w.heap.size := (Array.getElem?_eq_some_iff.1 h).1
theorem Row.later {w w' : World} {g B : Nat} {c : Array Value} (h : Row w g c) (hb : Below B w w') (hg : g < B) : Row w' g c := (hb.block g hg).trans h
theorem Row.alloc {w : World} {g : Nat} {c : Array Value} (h : Row w g c) (o : Obj) : Row (w.alloc o) g c := (Below.heap_alloc w o g h.lt).trans h
theorem row_new (w : World) (c : Array Value) (n : Nat) (hn : w.heap.size = n) : Row (w.alloc (.cells c 48)) n c := by subst hn; exact Go.heap_alloc_new w _
theorem Row.setRow {w : World} {g : Nat} {c c' : Array Value} (h : Row w g c) : Row (w.setRow g c') g c' := setRow_heap w g c _ 48 _ h
theorem below_setRow {B : Nat} {a w : World} {g : Nat} {c : Array Value} (h : Below B a w) (hg : B ≤ g) : Below B a (w.setRow g c) :=
  ⟨h.os, h.tape, h.output, by simpa using h.size, fun k hk => (setRow_other w g k _ (by omega)).trans (h.block k hk)⟩

set_option maxHeartbeats 1000000 in
set_option maxRecDepth 100000 in
theorem plus_any (x y : W) (w : World) :
    Calls Try.prog 31 #[.agg (bigR x), .agg (bigR y)] w fun e w' => e = .returned (.agg (bigR (x + y))) ∧ Below w.heap.size w w' := by
  have hz := zero48
  go_enter Try.func31, Try.ntmps31
  go_wp2_with fail
  go_loopw [6, 7] (fun c iv wr => ∃ k : Nat, iv = .int .i64 k ∧ k ≤ 256 ∧ c = .bool (carry x y k) ∧ Row wr w.heap.size (bigR x) ∧ Row wr (w.heap.size + 1) (bigR y) ∧ Row wr (w.heap.size + 1 + 1) (bigR 0) ∧ Row wr (w.heap.size + 1 + 1 + 1) (lows (x + y) k) ∧ Below w.heap.size w wr) (fun _ iv _ => 256 - (intOf iv).toNat)
  case atStart =>
    refine ⟨0, rfl, by omega, by rw [carry_zero], ?_, ?_, ?_, ?_, ?_⟩
    · exact (((row_new w _ _ rfl).alloc _).alloc _).alloc _
    · exact ((row_new _ _ _ (by simp)).alloc _).alloc _
    · exact (row_new _ _ _ (by simp)).alloc _
    · rw [lows_zero]; exact row_new _ _ _ (by simp)
    · exact ((((Below.refl _ w).alloc (Nat.le_refl _) _).alloc (by simp) _).alloc (by simp; omega) _).alloc (by simp; omega) _
  case round =>
    obtain ⟨k, rfl, hk, rfl, r0, r1, r2, r3, hb⟩ := hrel
    by_cases hlt : k < 256
    · have c0 := r0.cell k
      have c1 := r1.cell k
      have c3 := r3.cell k
      rw [bigR_get _ _ hlt] at c0 c1
      rw [lows_get _ _ _ hlt] at c3
      have f3 := r3.frozen k
      have hki : (k : Int) < 256 := by omega
      have HS : Hid ((x + y).getLsbD k = ((x.getLsbD k != y.getLsbD k) != carry x y k)) := sum_bit x y k hlt
      have HC : Hid (carry x y (k + 1) = (x.getLsbD k && y.getLsbD k || carry x y k && (x.getLsbD k || y.getLsbD k))) := carry_succ x y k
      have HL : Hid ((lows (x + y) k).setIfInBounds k (.bool ((x + y).getLsbD k)) = lows (x + y) (k + 1)) := lows_set (x + y) k hlt
      have HR : Hid (Row wr w.heap.size (bigR x) ∧ Row wr (w.heap.size + 1) (bigR y) ∧ Row wr (w.heap.size + 1 + 1) (bigR 0) ∧ Row wr (w.heap.size + 1 + 1 + 1) (lows (x + y) k)) := ⟨r0, r1, r2, r3⟩
      have HB : Hid (Below w.heap.size w wr) := hb
      clear r0 r1 r2 r3 hb
      generalize x.getLsbD k = p at c0 HS HC
      generalize y.getLsbD k = q at c1 HS HC
      generalize carry x y k = r at HS HC
      generalize (x + y).getLsbD k = s at c3 HS HL
      have hs := HS.out
      subst hs
      clear hz HS
      cases p <;> cases q <;> cases r
      all_goals
        go_wp2_with fail
        go_quiet (fail)
        go_wp2_with fail
      all_goals
        refine ⟨⟨k + 1, by simp, by omega, by rw [HC.out]; rfl, ?_, ?_, ?_, ?_, ?_⟩, ?_⟩
        · exact (HR.out.1.drewN _).other _ _ (by omega)
        · exact (HR.out.2.1.drewN _).other _ _ (by omega)
        · exact (HR.out.2.2.1.drewN _).other _ _ (by omega)
        · rw [← HL.out]; exact (HR.out.2.2.2.drewN _).set k _
        · exact (below_drewN HB.out _).setCell (by simp; omega) _
        · simp only [intOf]; omega
    · have hk256 : k = 256 := by omega
      subst hk256
      rw [lows_all] at r3
      have HB : Hid (Below w.heap.size w wr) := hb
      clear r0 r1 hz hb
      go_wp2_with (first | refine wpList_load_row rfl 48 _ rfl (w.heap.size + 1 + 1 + 1) rfl 48 (bigR (x + y)) (0, 0) _ r3 Try.underlying48 rfl (size48 _) ?_ | refine wpList_store_row rfl 48 _ _ rfl (w.heap.size + 1 + 1) (bigR (x + y)) rfl rfl 48 (bigR 0) r2 (size48 _) (by rw [bigR_size, bigR_size]) (one48 _) ?_)
      refine bodyPost_ret (results_cell_row Try.results31 _ _ (w.heap.size + 1 + 1) 48 (bigR (x + y)) (0, 0) _ rfl r2.setRow Try.underlying48 rfl (size48 _)) rfl ?_
      exact ⟨rfl, below_setRow HB.out (by omega)⟩

end Go.Proofs.Ytfcegoibelokpaa
