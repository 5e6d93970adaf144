/-
  The program's Decode, whatever record reads.
-/
import Derived.Test.YtnkkiepoljbhlaaDg
namespace Go.Proofs.Ytnkkiepoljbhlaa
open Go.RowKit

set_option maxHeartbeats 4000000 in
set_option maxRecDepth 100000 in
theorem decode_gen {α : Type} (w : World) (p : Option Addr) (c : Nat) (l : List UInt8) (hB : Byt w w.heap.size p c l) (R : α → Value) (st : Option (List UInt8)) (P : α → World → Prop) (ok : Bool)
    (HR : ∀ W, Rd W w.heap.size (some l) → Below w.heap.size w W → Calls Try.prog 33 #[.pointer (some ⟨w.heap.size, 0, none⟩)] W fun e w' => ∃ x, e = .returned (R x) ∧ Hid (Rd w' w.heap.size st ∧ RdK w.heap.size W w' ∧ P x w'))
    (HF : ∀ x W, P x W → Calls Try.prog 21 #[R x] W fun e w' => e = .returned (.bool ok) ∧ Below W.heap.size W w')
    (HP : ∀ x W W', P x W → Below W.heap.size W W' → P x W') :
    Calls Try.prog 15 #[.slice p l.length c] w fun e w' => Below w.heap.size w w' ∧ ((st = some [] ∧ ok = true ∧ ∃ x, e = .returned (.tuple #[R x, .int .i64 0]) ∧ P x w') ∨ (¬ (st = some [] ∧ ok = true) ∧ e = .returned (.tuple #[.nilIface, .int .i64 12]))) := by
  obtain ⟨n, hn⟩ : ∃ n, l.length = n := ⟨_, rfl⟩
  have HN : Hid (l.length = n) := hn
  rw [hn]
  clear hn
  have HR' : Hid (∀ W, Rd W w.heap.size (some l) → Below w.heap.size w W → Calls Try.prog 33 #[.pointer (some ⟨w.heap.size, 0, none⟩)] W fun e w' => ∃ x, e = .returned (R x) ∧ Hid (Rd w' w.heap.size st ∧ RdK w.heap.size W w' ∧ P x w')) := HR
  have HF' : Hid (∀ x W, P x W → Calls Try.prog 21 #[R x] W fun e w' => e = .returned (.bool ok) ∧ Below W.heap.size W w') := HF
  have HP' : Hid (∀ x W W', P x W → Below W.heap.size W W' → P x W') := HP
  have HB : Hid (Byt w w.heap.size p c l) := hB
  clear HR HF HP hB
  go_enter Try.func15, Try.ntmps15
  have H0 : Hid (Rd (w.alloc (Obj.cells #[Value.slice p n c, Value.bool false] 89)) w.heap.size (some l) ∧ Below w.heap.size w (w.alloc (Obj.cells #[Value.slice p n c, Value.bool false] 89))) := by
    have hb : Below w.heap.size w (w.alloc (Obj.cells #[Value.slice p n c, Value.bool false] 89)) := (Below.refl _ w).alloc (Nat.le_refl _) _
    refine ⟨⟨p, c, ?_, ?_⟩, hb⟩
    · rw [HN.out]; exact new0
    · refine ⟨?_, HB.out.nc, HB.out.bl, HB.out.cm⟩
      rcases HB.out.ly with e | ⟨g, o, rfl, hrow⟩
      · exact .inl e
      · refine .inr ⟨g, o, rfl, fun i x hx => ?_⟩
        have h3 := (HB.out.bl _ rfl).1
        have h1 := hrow i x hx
        unfold World.cell? at h1 ⊢
        rw [hb.block g h3]
        exact h1
  clear HN HB
  go_upto_region 2 with fail
  go_wp2_with fail
  refine (HR'.out _ H0.out.1 H0.out.2).mono ?_
  rintro e w1 ⟨x, rfl, h1⟩
  have HW : Hid (Below w.heap.size w w1) := H0.out.2.trans (h1.out.2.1.below (by have := H0.out.2.size; exact this) (Nat.le_refl _))
  generalize HRx : R x = rx at *
  cases st with
  | none =>
    have hr : w1.heap[w.heap.size]? = some (.cells #[.slice none 0 0, .bool true] 89 (0, 0)) := h1.out.1
    obtain ⟨c0, c1, f0, f1⟩ := rd_cells hr
    clear hr
    go_wp2_with fail
    go_returns
    exact ⟨HW.out, .inr ⟨by simp, rfl⟩⟩
  | some r =>
    obtain ⟨p1, cc, hr, -⟩ := h1.out.1
    obtain ⟨c0, c1, f0, f1⟩ := rd_cells hr
    clear hr
    by_cases hr0 : r = []
    · subst hr0
      have c0' : w1.cell? ⟨w.heap.size, 0, none⟩ = some (.slice p1 0 cc) := c0
      clear c0
      cases ok with
      | true =>
        go_wp2_with (go_at_call 21; refine ((HRx ▸ HF'.out x _ h1.out.2.2 : Calls Try.prog 21 #[rx] w1 _)).mono ?_; rintro e w2 ⟨rfl, b2⟩)
        go_returns
        first | exact ⟨below_from HW.out b2 HW.out.size, .inl ⟨rfl, rfl, x, by rw [HRx]; rfl, HP'.out x _ _ h1.out.2.2 b2⟩⟩ | exact ⟨below_from HW.out b2 HW.out.size, x, by rw [HRx]; rfl, HP'.out x _ _ h1.out.2.2 b2⟩
      | false =>
        go_wp2_with (go_at_call 21; refine ((HRx ▸ HF'.out x _ h1.out.2.2 : Calls Try.prog 21 #[rx] w1 _)).mono ?_; rintro e w2 ⟨rfl, b2⟩)
        go_returns
        first | exact ⟨below_from HW.out b2 HW.out.size, .inr ⟨by simp, rfl⟩⟩ | exact ⟨below_from HW.out b2 HW.out.size, rfl⟩
    · obtain ⟨m, hm⟩ : ∃ m, r.length = m := ⟨_, rfl⟩
      have hm0 : (0 : Int) < (m : Int) := by have := List.length_pos_iff.2 hr0; omega
      rw [hm] at c0
      clear hm
      go_wp2_with fail
      go_returns
      exact ⟨HW.out, .inr ⟨by simp [hr0], rfl⟩⟩
end Go.Proofs.Ytnkkiepoljbhlaa
