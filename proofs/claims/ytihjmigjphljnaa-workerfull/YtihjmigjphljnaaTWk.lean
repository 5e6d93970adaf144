/-
  take.
-/
import Derived.Test.YtihjmigjphljnaaTWj
namespace Go.Proofs.Ytihjmigjphljnaa.Tk
open Go.RowKit Go.Maps Go.WideMaps

theorem Mem.off {w w' : World} {cb : Nat} {S : HS} (h : Mem w cb S) {T : Nat → Prop} (k : Kp T w w') (hT : ∀ j, Fp cb S j → ¬ T j) : Mem w' cb S := h.keep fun j hj => k.block j (h.lt j hj) (hT j hj)
/-- a box of the caller's own is written behind the call -/
theorem Gone.box {w W w1 w2 : World} {cb : Nat} {S S' : HS} {a : Al} (h : Gone W w1 cb S a S') (hw : ∀ j, Fp cb S j → j < w.heap.size) (b : Below w.heap.size w W) (k : Kp (fun j => w.heap.size ≤ j ∧ j < W.heap.size) w1 w2) : Gone w w2 cb S a S' := by
  refine ⟨⟨h.c.m.off k fun j hj q => ?_, h.c.h⟩, ⟨?_, fun j hj => ?_, h.g.nv⟩, h.p⟩
  · rcases h.g.fp j hj with q' | q'
    · have := hw j q'; omega
    · omega
  · exact ⟨k.os.trans (h.g.kp.os.trans b.os), k.tape.trans (h.g.kp.tape.trans b.tape), k.output.trans (h.g.kp.output.trans b.output), Nat.le_trans b.size (Nat.le_trans h.g.kp.size k.size), fun j hj hn => by
      have s1 := b.size
      have s2 := h.g.kp.size
      exact (k.block j (by omega) (by omega)).trans ((h.g.kp.block j (by omega) hn).trans (b.block j hj))⟩
  · rcases h.g.fp j hj with q | q
    · exact .inl q
    · exact .inr (Nat.le_trans b.size q)
set_option maxHeartbeats 1000000 in
theorem take_S {w : World} {cb i k : Nat} {S : HS} (h : Hid (Cl w cb S)) (hk : Hid (S.l.length = k + 1)) (hi : Hid (i ≤ k)) :
    Calls Try.prog 47 #[.pointer (some ⟨cb, 1, none⟩), .int .i64 i] w fun e w' => e = .returned (alV (gt S.l i)) ∧ ∃ S', Gone w w' cb S (gt S.l i) S' := by
  have HR : Hid (∀ W, Below w.heap.size w W → Calls Try.prog 56 #[.iface 100 (.agg #[.pointer (some ⟨cb, 1, none⟩)]), .int .i64 i] W fun e w' => e = .returned (.iface 79 (.agg #[.string (gt S.l i).nm, .int .i64 (gt S.l i).at'])) ∧ Hid (∃ S', Gone W w' cb S (gt S.l i) S')) := fun W b => remove_S (w := W) ⟨h.out.m.below b, h.out.h⟩ hk hi
  have HF : Hid (∀ j, Fp cb S j → j < w.heap.size) := h.out.m.lt
  clear h hk hi
  generalize gt S.l i = x at *
  obtain ⟨xn, xa⟩ := x
  simp only [alV] at HR ⊢
  have a1 := assert45 (.agg #[.string xn, .int .i64 xa])
  have HB : Hid (Below w.heap.size w (w.alloc (.cells #[.string ⟨#[]⟩, .int .i64 0] 79 (0, 0)))) := (Below.refl _ w).alloc (Nat.le_refl _) _
  have HN : Hid ((w.alloc (.cells #[.string ⟨#[]⟩, .int .i64 0] 79 (0, 0))).heap[w.heap.size]? = some (.cells #[.string ⟨#[]⟩, .int .i64 0] 79 (0, 0)) ∧ (w.alloc (.cells #[.string ⟨#[]⟩, .int .i64 0] 79 (0, 0))).heap.size = w.heap.size + 1) := ⟨new0, by simp⟩
  go_enter Try.func47, Try.ntmps47
  go_upto_region 1 with fail
  generalize w.alloc (.cells #[.string ⟨#[]⟩, .int .i64 0] 79 (0, 0)) = W at *
  go_wp2_with (go_at_call 56; refine (HR.out _ HB.out).mono ?_; rintro e w1 ⟨rfl, hq⟩; have z : w1.heap[w.heap.size]? = some (.cells #[.string ⟨#[]⟩, .int .i64 0] 79 (0, 0)) := (by obtain ⟨S', q⟩ := hq.out; exact (q.g.kp.block _ (by have := HN.out.2; omega) (fun q => Nat.lt_irrefl _ (HF.out _ q))).trans HN.out.1); have z0 : w1.cell? ⟨w.heap.size, 0, none⟩ = some (.string ⟨#[]⟩) := (by rw [cell_of z]; rfl); have z1 : w1.cell? ⟨w.heap.size, 1, none⟩ = some (.int .i64 0) := (by rw [cell_of z]; rfl); have f0 := fz z 0; have f1 := fz z 1; have Z : Hid (w1.heap[w.heap.size]? = some (.cells #[.string ⟨#[]⟩, .int .i64 0] 79 (0, 0))) := z; clear z)
  obtain ⟨S', q⟩ := hq.out
  refine bodyPost_ret (v := .agg #[.string xn, .int .i64 xa]) (results_cell_row Try.results47 _ _ w.heap.size 79 #[.string xn, .int .i64 xa] (0, 0) _ rfl (setB (setB Z.out (.string xn)) (.int .i64 xa)) Try.underlying79 rfl (by kernel_rfl)) rfl ⟨rfl, S', q.box HF.out HB.out ?_⟩
  have hs := HN.out.2
  exact (Kp.of_set (S := fun j => w.heap.size ≤ j ∧ j < W.heap.size) w1 ⟨w.heap.size, 0, none⟩ _ ⟨Nat.le_refl _, by show w.heap.size < _; omega⟩).trans (Kp.of_set (S := fun j => w.heap.size ≤ j ∧ j < W.heap.size) _ ⟨w.heap.size, 1, none⟩ _ ⟨Nat.le_refl _, by show w.heap.size < _; omega⟩) fun _ _ h => h
end Go.Proofs.Ytihjmigjphljnaa.Tk
