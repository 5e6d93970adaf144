/-
  Steps of both; same.
-/
import Derived.Test.YtkfpbpkadkhhnaaQl
import Derived.Test.YtkfpbpkadkhhnaaLg
namespace Go.Proofs.Ytkfpbpkadkhhnaa
open Go.RowKit Go.Maps Go.Sort

theorem steps_eq {C : V} {L : List St} {T : List Opr} {E : List Int} (h : Pf C L) (f : ∀ u, fa C L u = fT C T u) (hE : Ends T E) : L = rdd C (M0 C T E) :=
  Go.Proofs.Ytkfpbpkadkhhnaa.uniq h.srt (rdd_srt (m0_srt hE.r)) (fun i s hs => h.nod i s hs id) (fun i s hs => rdd_nod i s hs id) fun t => by rw [f, rdd_fa (m0_srt hE.r), m0_fa hE]
set_option maxHeartbeats 2000000 in
theorem same_any {w : World} {p1 p2 : Option Addr} {n c1 c2 b : Nat} {L : List St} (h1 : Row w (.slice p1 n c1) L) (h2 : ORow b w (.slice p2 n c2) L) (hn : L.length = n) (h8 : n ≤ 8192) :
    Calls Try.prog 12 #[.slice p1 n c1, .slice p2 n c2] w fun e w' => e = .returned (.bool true) ∧ Below w.heap.size w w' := by
  have HR : Hid (Row w (.slice p1 n c1) L ∧ ORow b w (.slice p2 n c2) L ∧ L.length = n) := ⟨h1, h2, hn⟩
  clear h1 h2 hn
  go_enter Try.func12, Try.ntmps12
  go_wp2_with fail
  go_loopw [5] (fun t wr => ∃ i : Nat, t = .int .i64 i ∧ i ≤ n ∧ Hid (Below w.heap.size w wr)) (fun t _ => n - (intOf t).toNat)
  case atStart => exact ⟨0, rfl, Nat.zero_le _, Below.refl _ _⟩
  case round =>
    obtain ⟨i, rfl, hin, HB⟩ := hrel
    by_cases hi : i < n
    · have hi' : (i : Int) < (n : Int) := by omega
      obtain ⟨R1, R2, hl⟩ := HR.out
      replace R1 := R1.below HB.out
      replace R2 := R2.below HB.out
      obtain ⟨s, hs⟩ : ∃ s, L[i]? = some s := ⟨_, List.getElem?_eq_getElem (by omega)⟩
      obtain ⟨g1, d1, e1⟩ := R1.row (by omega)
      obtain ⟨g2, d2, e2⟩ := R2.row (by omega)
      injection e1 with e1 _ _
      injection e2 with e2 _ _
      subst e1
      subst e2
      obtain ⟨x0, x1, x2, x3, x4⟩ := R1.cells hs
      obtain ⟨y0, y1, y2, y3, y4⟩ := R2.cells hs
      have heq : ∀ w : World, (Op.equalIn 10000 23 (.agg #[.int .i64 s.fr.a, .int .i64 s.fr.b, .int .i64 s.fr.c, .int .i64 s.fr.d]) (.agg #[.int .i64 s.fr.a, .int .i64 s.fr.b, .int .i64 s.fr.c, .int .i64 s.fr.d])).run Try.prog w = .ok true w := fun w => by rw [eqV]; simp
      have HF : Hid (∀ m, Below w.heap.size w (wr.drewN m)) := fun m => below_drewN HB.out m
      have hne : (s.at' != s.at') = false := by simp
      clear R1 R2 hl HB HR
      go_upto_region 6 with fail
      go_quiet (fail)
      go_wp2_with fail
      refine ⟨⟨i + 1, by simp, hi, HF.out _⟩, ?_⟩
      simp [intOf]
      omega
    · have hi' : decide ((i : Int) < (n : Int)) = false := decide_eq_false (by omega)
      go_wp2_with fail
      go_ret
      exact ⟨rfl, HB.out⟩
end Go.Proofs.Ytkfpbpkadkhhnaa
