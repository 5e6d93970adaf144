/-
  lower.
-/
import Derived.Test.YtjgibngnjlciaaaGreatPPh
import Derived.Test.YtjgibngnjlciaaaGreatPPd
namespace Go.Proofs.YtjgibngnjlciaaaGreat
open Go.RowKit Go.Maps

/-- while steps are lowered -/
structure LW (w wr : World) (pb bx : Nat) (S S2 : PS) (v : V) (p i : Nat) : Prop where
  m : Mem wr pb (S2.wl S2.lv (lowS S2.l p i v))
  b : Bx wr bx v
  g : Chg pb S S2 w wr
theorem Bx.off {w w' : World} {g : Nat} {v : V} (h : Bx w g v) {T : Nat → Prop} (k : Kp T w w') (hT : ¬ T g) : Bx w' g v := (k.block g (Array.getElem?_eq_some_iff.1 h).1 hT).trans h
theorem Mem.bx {w : World} {pb bx : Nat} {S : PS} {v : V} (h : Mem w pb S) (hb : Bx w bx v) : ¬ Fp pb S bx := fun q => by
  rcases q with rfl | q
  · have := h.hp
    rw [hb] at this
    injection this with this
    injection this with _ q
    exact absurd q (by decide)
  · rcases h.rw.2 with ⟨e0, _⟩ | ⟨g, cap, cur, e0, _, hgg, _⟩
    · rw [e0] at q; cases q
    · rw [e0] at q
      cases q
      rw [hb] at hgg
      injection hgg with this
      injection this with _ q
      exact absurd q (by decide)
set_option maxHeartbeats 4000000 in
theorem low_raw (w : World) (pb : Nat) (a b : Int) (v : V) (bx : Nat) (Q1 : Nat → World → Prop) (R : Nat → Nat → Nat → World → Prop) (QJ1 : Nat → World → Prop) (Q : World → Prop) (hbx : bx = w.heap.size)
    (H1 : Hid (Calls Tryz.prog 75 #[.pointer (some ⟨pb, 0, none⟩), .int .i64 a] (w.alloc (.cells #[.int .i64 v.a, .int .i64 v.b, .int .i64 v.c, .int .i64 v.d] 40)) fun e w' => ∃ p : Nat, e = .returned (.int .i64 p) ∧ Hid (Q1 p w')))
    (H2 : Hid (∀ p W, Q1 p W → Calls Tryz.prog 75 #[.pointer (some ⟨pb, 0, none⟩), .int .i64 b] W fun e w' => ∃ q : Nat, e = .returned (.int .i64 q) ∧ Hid (p ≤ q ∧ q ≤ 60000) ∧ Hid (R p q p w')))
    (H3 : Hid (∀ (p q i : Nat) W, R p q i W → i < q → ∃ (g n c : Nat) (s : V), (i < n ∧ W.cell? ⟨pb, 4, none⟩ = some (.slice (some ⟨g, 0, none⟩) n c) ∧ W.cell? ⟨g, i * 5 + 1, none⟩ = some (.int .i64 s.a) ∧ W.cell? ⟨g, i * 5 + 1 + 1, none⟩ = some (.int .i64 s.b) ∧ W.cell? ⟨g, i * 5 + 1 + 2, none⟩ = some (.int .i64 s.c) ∧ W.cell? ⟨g, i * 5 + 1 + 3, none⟩ = some (.int .i64 s.d) ∧ W.cell? ⟨bx, 0, none⟩ = some (.int .i64 v.a) ∧ W.cell? ⟨bx, 1, none⟩ = some (.int .i64 v.b) ∧ W.cell? ⟨bx, 2, none⟩ = some (.int .i64 v.c) ∧ W.cell? ⟨bx, 3, none⟩ = some (.int .i64 v.d)) ∧
      Hid (Calls Tryz.prog 26 #[.agg #[.int .i64 s.a, .int .i64 s.b, .int .i64 s.c, .int .i64 s.d], .agg #[.int .i64 v.a, .int .i64 v.b, .int .i64 v.c, .int .i64 v.d]] W.drew fun e w' => e = .returned (.tuple #[.agg #[.int .i64 (s.sub v).a, .int .i64 (s.sub v).b, .int .i64 (s.sub v).c, .int .i64 (s.sub v).d], .int .i64 0]) ∧ (w'.cell? ⟨pb, 4, none⟩ = some (.slice (some ⟨g, 0, none⟩) n c) ∧ w'.cell? ⟨g, i * 5 + 1, none⟩ = some (.int .i64 s.a) ∧ w'.cell? ⟨g, i * 5 + 1 + 1, none⟩ = some (.int .i64 s.b) ∧ w'.cell? ⟨g, i * 5 + 1 + 2, none⟩ = some (.int .i64 s.c) ∧ w'.cell? ⟨g, i * 5 + 1 + 3, none⟩ = some (.int .i64 s.d) ∧ w'.frozen? ⟨g, i * 5 + 1, none⟩ = false ∧ w'.frozen? ⟨g, i * 5 + 1 + 1, none⟩ = false ∧ w'.frozen? ⟨g, i * 5 + 1 + 2, none⟩ = false ∧ w'.frozen? ⟨g, i * 5 + 1 + 3, none⟩ = false) ∧
        Hid (R p q (i + 1) ((((w'.setCell ⟨g, i * 5 + 1, none⟩ (.int .i64 (s.sub v).a)).setCell ⟨g, i * 5 + 1 + 1, none⟩ (.int .i64 (s.sub v).b)).setCell ⟨g, i * 5 + 1 + 2, none⟩ (.int .i64 (s.sub v).c)).setCell ⟨g, i * 5 + 1 + 3, none⟩ (.int .i64 (s.sub v).d))))))
    (H4 : Hid (∀ (p q : Nat) W, R p q q W → Calls Tryz.prog 76 #[.pointer (some ⟨pb, 0, none⟩), .int .i64 q] W fun e w' => e = .returned (.tuple #[]) ∧ Hid (QJ1 p w')))
    (H5 : Hid (∀ (p : Nat) W, QJ1 p W → Calls Tryz.prog 76 #[.pointer (some ⟨pb, 0, none⟩), .int .i64 p] W fun e w' => e = .returned (.tuple #[]) ∧ Hid (Q w'))) :
    Calls Tryz.prog 63 #[.pointer (some ⟨pb, 0, none⟩), .int .i64 a, .int .i64 b, .agg #[.int .i64 v.a, .int .i64 v.b, .int .i64 v.c, .int .i64 v.d]] w fun e w' => e = .returned (.tuple #[]) ∧ Q w' := by
  subst hbx
  go_enter Tryz.func63, Tryz.ntmps63
  go_wp2_with (go_at_call_of 75 (Value.pointer (some ⟨pb, 0, none⟩)); refine H1.out.mono ?_)
  first | rintro e w1 p rfl h1 | rintro e w1 ⟨p, rfl, h1⟩
  go_wp2_with (go_at_call 75; refine (H2.out p _ h1.out).mono ?_)
  first | rintro e w2 q rfl hpq h2 | rintro e w2 ⟨q, rfl, hpq, h2⟩
  clear H1 H2 h1
  go_wp2_with fail
  go_loopw [10] (fun t10 wr => ∃ i : Nat, t10 = .int .i64 i ∧ p ≤ i ∧ i ≤ q ∧ Hid (R p q i wr)) (fun t10 _ => q - (intOf t10).toNat)
  case atStart => exact ⟨p, rfl, Nat.le_refl _, hpq.out.1, h2.out⟩
  case round =>
    clear h2
    obtain ⟨i, rfl, hi1, hi2, HR⟩ := hrel
    have hq6 := hpq.out.2
    by_cases he : i = q
    · subst he
      clear H3
      go_wp2_with (go_at_call 76; refine (H4.out p _ _ HR.out).mono ?_)
      first | rintro e w3 rfl h3 | rintro e w3 ⟨rfl, h3⟩
      go_wp2_with (go_at_call 76; refine (H5.out p _ h3.out).mono ?_)
      first | rintro e w4 rfl h4 | rintro e w4 ⟨rfl, h4⟩
      go_wp2_with fail
      go_end0
      exact ⟨rfl, h4.out⟩
    · have hlt : (i : Int) < (q : Int) := by omega
      obtain ⟨g, n, c, s, ⟨hin, c4, s0, s1, s2, s3, b0, b1, b2, b3⟩, H36⟩ := H3.out p q i wr HR.out (by omega)
      have hin' : (i : Int) < (n : Int) := by omega
      clear H3 H4 H5 HR
      go_wp2_with fail
      go_region_with (first | (go_at_call 26; refine H36.out.mono ?_; rintro e w3 ⟨rfl, ⟨t4, t0, t1, t2, t3, f0, f1, f2, f3⟩, h3⟩))
      all_goals go_wp2_with fail
      all_goals
        refine ⟨⟨i + 1, by simp, by omega, by omega, h3.out⟩, ?_⟩
        simp only [intOf]; omega
end Go.Proofs.YtjgibngnjlciaaaGreat
