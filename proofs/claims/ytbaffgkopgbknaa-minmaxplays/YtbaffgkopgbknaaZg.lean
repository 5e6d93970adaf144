/-
  The reference's Pop (End's answer is a premise).
-/
import Derived.Test.YtbaffgkopgbknaaZf
namespace Go.Proofs.Ytbaffgkopgbknaa
open Go.RowKit Go.Maps
section
variable {w w' : World} {gr : Bool} {rb : Nat} {v : Value} {l : List RE}
set_option maxHeartbeats 2000000 in
theorem rpop_some (h : Hid (Rf w rb v l)) (i : Nat) (e0 : RE) (k : K) (hi : Hid (l[i]? = some e0)) (H28 : Hid (∀ w1, Below w.heap.size w w1 → Calls Try.prog 28 #[.pointer (some ⟨rb, 0, none⟩), .bool gr] w1 fun e w' => e = .returned (.tuple #[.int .i64 i, .agg #[.int .i64 k.a, .int .i64 k.b, .int .i64 k.c], .int .i64 0]) ∧ Below w1.heap.size w1 w')) :
    Calls Try.prog 23 #[.pointer (some ⟨rb, 0, none⟩), .bool gr] w fun e w' => e = .returned (.tuple #[.int .i64 i, ktup k, .int .i64 0]) ∧ Rf w' rb v (l.set i re0) ∧ Kp (fun k => v.ownBlock = some k) w w' := by
  have hil : i < l.length := (List.getElem?_eq_some_iff.1 hi.out).1
  obtain ⟨g, c, rfl⟩ := h.out.row (by intro q; rw [q] at hil; simp at hil)
  have hil' : (i : Int) < (l.length : Int) := by omega
  have hi0 : 0 ≤ (i : Int) := by omega
  have HI : Hid (i < l.length) := hil
  clear hil
  have B0 : Below w.heap.size w (w.alloc (.cells #[.int .i64 0, .int .i64 0, .int .i64 0] 45)) := (Below.refl _ w).alloc (Nat.le_refl _) _
  have N0 : Hid ((w.alloc (.cells #[.int .i64 0, .int .i64 0, .int .i64 0] 45)).heap[w.heap.size]? = some (.cells #[.int .i64 0, .int .i64 0, .int .i64 0] 45 (0, 0))) := new0
  have H := H28.out _ B0
  have HB : Hid (Below w.heap.size w (w.alloc (.cells #[.int .i64 0, .int .i64 0, .int .i64 0] 45))) := B0
  clear B0
  go_enter Try.func23, Try.ntmps23
  go_upto_region 3 with (go_at_call 28; refine H.mono ?_; rintro e w1 ⟨rfl, b1⟩; have y1 : Hid (Below w.heap.size w w1) := below_from HB.out b1 HB.out.size; have N1 : Hid (w1.heap[w.heap.size]? = some (.cells #[.int .i64 0, .int .i64 0, .int .i64 0] 45 (0, 0))) := at_below b1 (Nat.le_refl _) N0.out; clear b1)
  have Y2 : Hid (Below w.heap.size w (w1.alloc (.cells #[.int .i64 k.a, .int .i64 k.b, .int .i64 k.c] 45))) := y1.out.alloc y1.out.size _
  have N2 : Hid ((w1.alloc (.cells #[.int .i64 k.a, .int .i64 k.b, .int .i64 k.c] 45)).heap[w.heap.size]? = some (.cells #[.int .i64 0, .int .i64 0, .int .i64 0] 45 (0, 0))) := at_alloc N1.out
  have N3 : Hid ((w1.alloc (.cells #[.int .i64 k.a, .int .i64 k.b, .int .i64 k.c] 45)).heap[w1.heap.size]? = some (.cells #[.int .i64 k.a, .int .i64 k.b, .int .i64 k.c] 45 (0, 0))) := new0
  have HL : Hid (w.heap.size ≤ w1.heap.size) := y1.out.size
  generalize w1.alloc (.cells #[.int .i64 k.a, .int .i64 k.b, .int .i64 k.c] 45) = W at *
  generalize w1.heap.size = bo at *
  clear y1 N1 N0 HB H H28
  have R2 : Hid (Rf W rb (.slice (some ⟨g, 0, none⟩) l.length c) l) := h.out.keep Y2.out
  have k1 := c1 R2.out.b
  have p0 := R2.out.cell hi.out (j := 0) rfl (by decide)
  have p1 := R2.out.cell hi.out (j := 1) rfl (by decide)
  have p2 := R2.out.cell hi.out (j := 2) rfl (by decide)
  have p3 := R2.out.cell hi.out (j := 3) rfl (by decide)
  rw [Nat.add_zero] at p0
  have f0 := R2.out.fz (i * 4)
  have f1 := R2.out.fz (i * 4 + 1)
  have f2 := R2.out.fz (i * 4 + 2)
  have f3 := R2.out.fz (i * 4 + 3)
  have hgl : g < w.heap.size := (World.ownsRow.lt h.out.r g rfl).2
  have hrl : rb < w.heap.size := (Array.getElem?_eq_some_iff.1 h.out.b).1
  have HR : Hid (Rf (wset W g (i * 4) re0) rb (.slice (some ⟨g, 0, none⟩) l.length c) (l.set i re0) ∧ Kp (fun k => (Value.slice (some ⟨g, 0, none⟩) l.length c).ownBlock = some k) w (wset W g (i * 4) re0) ∧ (wset W g (i * 4) re0).heap[w.heap.size]? = some (.cells #[.int .i64 0, .int .i64 0, .int .i64 0] 45 (0, 0)) ∧ (wset W g (i * 4) re0).heap[bo]? = some (.cells #[.int .i64 k.a, .int .i64 k.b, .int .i64 k.c] 45 (0, 0))) := by
    refine ⟨R2.out.set re0 HI.out, ?_, (wset_other (by omega)).trans N2.out, (wset_other (by have := HL.out; omega)).trans N3.out⟩
    have k2 : Kp (fun k => (Value.slice (some ⟨g, 0, none⟩) l.length c).ownBlock = some k) w W := Kp.of_below Y2.out
    refine (((k2.trans (Kp.of_set _ ⟨g, i * 4, none⟩ _ rfl) fun _ _ q => congrArg some q).trans (Kp.of_set _ ⟨g, i * 4 + 1, none⟩ _ rfl) fun _ _ q => congrArg some q).trans (Kp.of_set _ ⟨g, i * 4 + 2, none⟩ _ rfl) fun _ _ q => congrArg some q).trans (Kp.of_set _ ⟨g, i * 4 + 3, none⟩ _ rfl) fun _ _ q => congrArg some q
  have HG : Hid (g < w.heap.size ∧ rb < w.heap.size) := ⟨hgl, hrl⟩
  clear hgl hrl R2 Y2 N2 N3 h
  unfold wset re0 at HR
  go_upto_region 4 with fail
  clear p0 p1 p2 p3 f0 f1 f2 f3 k1
  generalize (((W.setCell _ _).setCell _ _).setCell _ _).setCell _ _ = W3 at *
  obtain ⟨q0, q1, q2⟩ := c3 HR.out.2.2.1
  obtain ⟨q3, q4, q5⟩ := c3 HR.out.2.2.2
  obtain ⟨f0, f1, f2⟩ := f3 HR.out.2.2.1
  have HE : Hid (∀ w9, w9 = ((W3.setCell ⟨w.heap.size, 0, none⟩ (.int .i64 k.a)).setCell ⟨w.heap.size, 1, none⟩ (.int .i64 k.b)).setCell ⟨w.heap.size, 2, none⟩ (.int .i64 k.c) → Rf w9 rb (.slice (some ⟨g, 0, none⟩) l.length c) (l.set i ⟨⟨0, 0, 0⟩, false⟩) ∧ Kp (fun k => (Value.slice (some ⟨g, 0, none⟩) l.length c).ownBlock = some k) w w9) := fun w9 e => by
    subst e
    have hk3 : Kp (fun k => k = w.heap.size) W3 (((W3.setCell ⟨w.heap.size, 0, none⟩ (.int .i64 k.a)).setCell ⟨w.heap.size, 1, none⟩ (.int .i64 k.b)).setCell ⟨w.heap.size, 2, none⟩ (.int .i64 k.c)) := ((Kp.of_set (S := fun k => k = w.heap.size) W3 ⟨w.heap.size, 0, none⟩ _ rfl).trans (Kp.of_set (S := fun k => k = w.heap.size) _ ⟨w.heap.size, 1, none⟩ _ rfl) fun _ _ q => q).trans (Kp.of_set (S := fun k => k = w.heap.size) _ ⟨w.heap.size, 2, none⟩ _ rfl) fun _ _ q => q
    have hR := HR.out.1
    have hG := HG.out
    have hsz : w.heap.size ≤ W3.heap.size := HR.out.2.1.size
    refine ⟨⟨(hk3.block rb (by omega) (by omega)).trans hR.b, ownsKeep hR.r fun g' hg' => hk3.block g' (by have : g = g' := Option.some.inj hg'; omega) (by have : g = g' := Option.some.inj hg'; omega)⟩, HR.out.2.1.trans hk3 fun x hx q => by omega⟩
  go_region
  all_goals go_wp2_with fail
  all_goals refine bodyPost_ret (v := .tuple #[.int .i64 i, ktup k, .int .i64 0]) (by rw [results_tct rfl]; go_simp; rfl) rfl ?_
  all_goals obtain ⟨r1, r2⟩ := HE.out _ rfl
  all_goals exact ⟨rfl, ⟨r1.b, r1.r⟩, ⟨r2.os, r2.tape, r2.output, r2.size, r2.block⟩⟩
set_option maxHeartbeats 2000000 in
theorem rpop_none (H28 : Hid (∀ w1, Below w.heap.size w w1 → Calls Try.prog 28 #[.pointer (some ⟨rb, 0, none⟩), .bool gr] w1 fun e w' => e = .returned (.tuple #[.int .i64 0, .agg #[.int .i64 0, .int .i64 0, .int .i64 0], .int .i64 3]) ∧ Below w1.heap.size w1 w')) :
    Calls Try.prog 23 #[.pointer (some ⟨rb, 0, none⟩), .bool gr] w fun e w' => e = .returned (.tuple #[.int .i64 0, ktup kz, .int .i64 3]) ∧ Below w.heap.size w w' := by
  have B0 : Below w.heap.size w (w.alloc (.cells #[.int .i64 0, .int .i64 0, .int .i64 0] 45)) := (Below.refl _ w).alloc (Nat.le_refl _) _
  have N0 : Hid ((w.alloc (.cells #[.int .i64 0, .int .i64 0, .int .i64 0] 45)).heap[w.heap.size]? = some (.cells #[.int .i64 0, .int .i64 0, .int .i64 0] 45 (0, 0))) := new0
  have H := H28.out _ B0
  have HB : Hid (Below w.heap.size w (w.alloc (.cells #[.int .i64 0, .int .i64 0, .int .i64 0] 45))) := B0
  clear B0
  go_enter Try.func23, Try.ntmps23
  go_upto_region 4 with (go_at_call 28; refine H.mono ?_; rintro e w1 ⟨rfl, b1⟩; have y1 : Hid (Below w.heap.size w w1) := below_from HB.out b1 HB.out.size; have N1 : Hid (w1.heap[w.heap.size]? = some (.cells #[.int .i64 0, .int .i64 0, .int .i64 0] 45 (0, 0))) := at_below b1 (Nat.le_refl _) N0.out; clear b1)
  have Y2 : Hid (Below w.heap.size w (w1.alloc (.cells #[.int .i64 0, .int .i64 0, .int .i64 0] 45))) := y1.out.alloc y1.out.size _
  have N2 : Hid ((w1.alloc (.cells #[.int .i64 0, .int .i64 0, .int .i64 0] 45)).heap[w.heap.size]? = some (.cells #[.int .i64 0, .int .i64 0, .int .i64 0] 45 (0, 0))) := at_alloc N1.out
  have N3 : Hid ((w1.alloc (.cells #[.int .i64 0, .int .i64 0, .int .i64 0] 45)).heap[w1.heap.size]? = some (.cells #[.int .i64 0, .int .i64 0, .int .i64 0] 45 (0, 0))) := new0
  generalize w1.alloc (.cells #[.int .i64 0, .int .i64 0, .int .i64 0] 45) = W at *
  generalize w1.heap.size = bo at *
  clear y1 N1 N0 HB H H28
  obtain ⟨q0, q1, q2⟩ := c3 N2.out
  obtain ⟨q3, q4, q5⟩ := c3 N3.out
  obtain ⟨f0, f1, f2⟩ := f3 N2.out
  have HE : Hid (Below w.heap.size w (((W.setCell ⟨w.heap.size, 0, none⟩ (.int .i64 0)).setCell ⟨w.heap.size, 1, none⟩ (.int .i64 0)).setCell ⟨w.heap.size, 2, none⟩ (.int .i64 0))) := ((Y2.out.setCell (p := ⟨w.heap.size, 0, none⟩) (Nat.le_refl _) _).setCell (p := ⟨w.heap.size, 1, none⟩) (Nat.le_refl _) _).setCell (p := ⟨w.heap.size, 2, none⟩) (Nat.le_refl _) _
  clear N2 N3
  go_region
  all_goals go_wp2_with fail
  all_goals refine bodyPost_ret (v := .tuple #[.int .i64 0, ktup kz, .int .i64 3]) (by rw [results_tct rfl]; go_simp; rfl) rfl ?_
  all_goals exact ⟨rfl, ⟨HE.out.os, HE.out.tape, HE.out.output, HE.out.size, HE.out.block⟩⟩
end
end Go.Proofs.Ytbaffgkopgbknaa
