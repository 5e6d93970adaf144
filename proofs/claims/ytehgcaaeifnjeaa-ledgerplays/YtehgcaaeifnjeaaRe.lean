/-
  The document's ledger: Open, whole.
-/
import Derived.Test.YtehgcaaeifnjeaaRd
namespace Go.Proofs.Ytehgcaaeifnjeaa
open Go.RowKit Go.Maps

set_option maxHeartbeats 2000000 in
set_option maxRecDepth 100000 in
theorem ropen_full (w : World) (rb n c : Nat) (q : Option Addr) (s : List UInt8) (v : V) (hv : fm v.a v.b v.c v.d = true) (hn : n = 64) (hR : Hid (w.heap[rb]? = some (.cells #[.slice q n c] 30 (0, 0)))) (H : Hid (∀ w1, Below w.heap.size w w1 → Calls Try.prog 32 #[.pointer (some ⟨rb, 0, none⟩), .string ⟨⟨s⟩⟩] w1 fun e w' => e = .returned (.int .i64 (-1)) ∧ w' = w1)) : Calls Try.prog 23 #[.pointer (some ⟨rb, 0, none⟩), .string ⟨⟨s⟩⟩, .agg #[.int .i64 v.a, .int .i64 v.b, .int .i64 v.c, .int .i64 v.d]] w fun e w' => e = .returned (.int .i64 6) ∧ Hid (Below w.heap.size w w') := by
  subst hn
  have HC : Hid (∀ (w : World), Calls Try.prog 21 #[.agg #[.int .i64 v.a, .int .i64 v.b, .int .i64 v.c, .int .i64 v.d]] w fun e w' => e = .returned (.bool true) ∧ Hid (Below w.heap.size w w')) := fun w => by have := rformed_any v.a v.b v.c v.d w; rwa [hv] at this
  obtain ⟨q0, q1, q2, q3, -⟩ := cells4 (new0 (w := w) (o := .cells #[.int .i64 v.a, .int .i64 v.b, .int .i64 v.c, .int .i64 v.d] 33 (0, 0)))
  have Y : Hid (Below w.heap.size w (w.alloc (.cells #[.int .i64 v.a, .int .i64 v.b, .int .i64 v.c, .int .i64 v.d] 33 (0, 0)))) := (Below.refl _ w).alloc (Nat.le_refl _) _
  clear hv
  go_enter Try.func23, Try.ntmps23
  go_wp2_with (go_at_call 21; refine (HC.out _).mono ?_)
  first | rintro e w1 rfl b1 | rintro e w1 ⟨rfl, b1⟩
  have b2 : Below (w.alloc (.cells #[.int .i64 v.a, .int .i64 v.b, .int .i64 v.c, .int .i64 v.d] 33 (0, 0))).heap.size (w.alloc (.cells #[.int .i64 v.a, .int .i64 v.b, .int .i64 v.c, .int .i64 v.d] 33 (0, 0))) w1 := by
    rw [World.size_alloc]
    first | exact b1.out | (have := b1.out; rwa [World.size_alloc] at this)
  have Y1 : Hid (Below w.heap.size w w1) := below_from Y.out b2 Y.out.size
  clear q0 q1 q2 q3 b1 b2 Y HC
  go_upto_region 7 with (go_at_call 32; refine (H.out _ Y1.out).mono ?_; rintro e w2 ⟨rfl, h2⟩; obtain rfl := h2.symm)
  have e0 := c1 (at_below Y1.out (Nat.le_refl _) hR.out)
  clear H hR
  go_wp2_with fail
  go_ret
  exact ⟨rfl, Y1.out⟩
theorem RAt.upd {w w' : World} {rb g n c k : Nat} {D : List A} {a : A} {v : V} (h : RAt w rb (some ⟨g, 0, none⟩) n c D) (hk : D[k]? = some a) (hv : v.ok = true) (hr : AR w' (.slice (some ⟨g, 0, none⟩) n c) (D.set k ⟨a.nm, v, a.us⟩)) (hp : Kp (· = g) w w') : RAt w' rb (some ⟨g, 0, none⟩) n c (upd A.nm a.nm ⟨a.nm, v, a.us⟩ D) := h.set hk rfl ⟨hv, (h.ok a (List.mem_of_getElem? hk)).2⟩ hr hp
theorem ropen_any {w : World} {T : Nat → Prop} {rb : Nat} {D : List A} (h : Ref w T rb D) (s : List UInt8) (v : V) :
    Calls Try.prog 23 #[.pointer (some ⟨rb, 0, none⟩), .string ⟨⟨s⟩⟩, .agg #[.int .i64 v.a, .int .i64 v.b, .int .i64 v.c, .int .i64 v.d]] w fun e w' => e = .returned (.int .i64 (openD D s v).1) ∧ Hid (∃ T', Ref w' T' rb (openD D s v).2 ∧ Step T T' w w') := by
  have h0 := h
  obtain ⟨⟨q, n, c, h1, hT⟩, hlt⟩ := h
  unfold openD
  by_cases hv : v.ok = true
  · rw [if_pos hv]
    cases hf : fnd A.nm s D with
    | some a =>
      obtain ⟨k, hk⟩ := fnd_place hf
      obtain ⟨g, rfl⟩ := h1.row.some hk
      have hs := (fnd_some hf).2
      have hkn : k < n := by have := (List.getElem?_eq_some_iff.1 hk).1; have := h1.n; omega
      refine (ropen_set w rb g n c k D s v hkn hv h1 fun w1 b => rfind_yes (h1.below b) hk hs).mono ?_
      rintro e w' ⟨rfl, hR⟩
      have h2 := h1.upd hk hv (hR.out.rw a hk) hR.out.kp
      rw [hs] at h2
      exact ⟨rfl, T, Ref.set hT hlt h2 hR.out.kp⟩
    | none =>
      simp only
      by_cases h64 : 64 ≤ D.length
      · rw [if_pos h64]
        refine (ropen_full w rb n c q s v hv (by have := h1.n; have := h1.len; omega) h1.cell fun w1 b => rfind_no (h1.below b) hf).mono ?_
        rintro e w' ⟨rfl, b⟩
        exact ⟨rfl, T, h0.keepB b.out, Step.of_below T b.out⟩
      · rw [if_neg h64]
        refine (ropen_add w rb n c q D s v hv (by have := h1.n; omega) h1 fun w1 b => rfind_no (h1.below b) hf).mono ?_
        rintro e w' ⟨rfl, hP⟩
        obtain ⟨U, g, cap, k, hb, hR⟩ := hP.out
        have hins : ins A.nm ⟨s, v, V.nil⟩ D = D.take k ++ ⟨s, v, V.nil⟩ :: D.drop k := ins_mid (f := ⟨s, v, V.nil⟩) h1.srt hR.gt hR.le
        have hrow := hR.h3
        rw [← hins] at hrow
        have hK : Kp T w w' := (Kp.of_below hb : Kp T w U).trans (S' := fun j => j = rb ∨ (Value.slice q n c).ownBlock = some j) ⟨hR.h4.os, hR.h4.tape, hR.h4.output, hR.h4.size, hR.h4.block⟩ fun j _ e => hT j e
        refine ⟨rfl, fun j => j = rb ∨ j = g, ⟨⟨some ⟨g, 0, none⟩, n + 1, cap, ⟨hR.h1, hrow, srt_ins h1.srt (fnd_none hf), ?_, fun b hb' => ?_⟩, fun j hj => ?_⟩, fun j hj => ?_⟩, hK, fun j hj => ?_⟩
        · rw [ins_length]; omega
        · rcases mem_ins.1 hb' with rfl | hb'
          · exact ⟨hv, rfl⟩
          · exact h1.ok b hb'
        · rcases hj with hj | hj
          · exact .inl hj
          · exact .inr (Option.some.inj hj).symm
        · rcases hj with rfl | rfl
          · exact (Array.getElem?_eq_some_iff.1 hR.h1).1
          · exact hrow.lt rfl
        · rcases hj with rfl | rfl
          · exact .inl (hT _ (.inl rfl))
          · rcases hR.h5 with h5 | h5
            · exact .inl (hT _ (.inr h5))
            · exact .inr (by have := hb.size; omega)
  · rw [if_neg hv]
    refine (ropen_form w _ s v.a v.b v.c v.d (Bool.eq_false_iff.2 hv)).mono ?_
    rintro e w' ⟨rfl, b⟩
    exact ⟨rfl, T, h0.keepB b, Step.of_below T b⟩
end Go.Proofs.Ytehgcaaeifnjeaa
