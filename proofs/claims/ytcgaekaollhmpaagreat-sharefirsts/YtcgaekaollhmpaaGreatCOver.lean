/-
  The contract of the reference's over: two products, compared by words of 20 bits.
-/
import Derived.Test.YtcgaekaollhmpaaGreatCWalkG
namespace Go.Proofs.YtcgaekaollhmpaaGreat.Vs
open Go.RowKit

theorem words20 (a b : Nat) (ha : a ≤ 1099511627776) (hb : b ≤ 1099511627776) : ∃ P Q R S : Nat, (P ≤ 1099511627776 ∧ Q ≤ 1099511627776 ∧ R ≤ 1099511627776 ∧ S ≤ 1099511627776) ∧
    (IntKind.i64.wrap ((a : Int) / 1048576 * ((b : Int) / 1048576)) = (P : Int) ∧ IntKind.i64.wrap ((a : Int) / 1048576 * ((b : Int) % 1048576)) = (Q : Int) ∧ IntKind.i64.wrap ((a : Int) % 1048576 * ((b : Int) / 1048576)) = (R : Int) ∧ IntKind.i64.wrap ((a : Int) % 1048576 * ((b : Int) % 1048576)) = (S : Int)) ∧
    a * b = P * 1099511627776 + (Q + R) * 1048576 + S := by
  have b1 : a / 1048576 ≤ 1048576 := by omega
  have b2 : b / 1048576 ≤ 1048576 := by omega
  have b3 : a % 1048576 ≤ 1048576 := by omega
  have b4 : b % 1048576 ≤ 1048576 := by omega
  have p1 := Nat.mul_le_mul b1 b2
  have p2 := Nat.mul_le_mul b1 b4
  have p3 := Nat.mul_le_mul b3 b2
  have p4 := Nat.mul_le_mul b3 b4
  refine ⟨a / 1048576 * (b / 1048576), a / 1048576 * (b % 1048576), a % 1048576 * (b / 1048576), a % 1048576 * (b % 1048576), ⟨by omega, by omega, by omega, by omega⟩, ⟨?_, ?_, ?_, ?_⟩, ?_⟩
  · have e : (a : Int) / 1048576 * ((b : Int) / 1048576) = ((a / 1048576 * (b / 1048576) : Nat) : Int) := by simp
    rw [e]; exact wrap_ok (by omega) (by omega)
  · have e : (a : Int) / 1048576 * ((b : Int) % 1048576) = ((a / 1048576 * (b % 1048576) : Nat) : Int) := by simp
    rw [e]; exact wrap_ok (by omega) (by omega)
  · have e : (a : Int) % 1048576 * ((b : Int) / 1048576) = ((a % 1048576 * (b / 1048576) : Nat) : Int) := by simp
    rw [e]; exact wrap_ok (by omega) (by omega)
  · have e : (a : Int) % 1048576 * ((b : Int) % 1048576) = ((a % 1048576 * (b % 1048576) : Nat) : Int) := by simp
    rw [e]; exact wrap_ok (by omega) (by omega)
  · have ea := Nat.div_add_mod a 1048576
    have eb := Nat.div_add_mod b 1048576
    generalize a / 1048576 = x at *
    generalize a % 1048576 = y at *
    generalize b / 1048576 = z at *
    generalize b % 1048576 = u at *
    subst ea eb
    simp only [Nat.add_mul, Nat.mul_add]
    have e1 : 1048576 * x * (1048576 * z) = x * z * 1099511627776 := by rw [show 1048576 * x * (1048576 * z) = x * z * (1048576 * 1048576) by ac_rfl]
    have e2 : 1048576 * x * u = x * u * 1048576 := by ac_rfl
    have e3 : y * (1048576 * z) = y * z * 1048576 := by ac_rfl
    rw [e1, e2, e3]
    omega

set_option maxHeartbeats 2000000 in
theorem over_any (a b c d : Nat) (w : World) (ha : a ≤ 1099511627776) (hb : b ≤ 1099511627776) (hc : c ≤ 1099511627776) (hd : d ≤ 1099511627776) :
    Calls Tryz.prog 51 #[.int .i64 a, .int .i64 b, .int .i64 c, .int .i64 d] w fun e w' => e = .returned (.bool (decide (c * d < a * b))) ∧ Below w.heap.size w w' := by
  obtain ⟨P, Q, R, S, ⟨bP, bQ, bR, bS⟩, ⟨eP, eQ, eR, eS⟩, hab⟩ := words20 a b ha hb
  obtain ⟨P', Q', R', S', ⟨bP', bQ', bR', bS'⟩, ⟨eP', eQ', eR', eS'⟩, hcd⟩ := words20 c d hc hd
  obtain ⟨U, hU⟩ : ∃ U, U = Q + R + S / 1048576 := ⟨_, rfl⟩
  obtain ⟨U', hU'⟩ : ∃ U, U = Q' + R' + S' / 1048576 := ⟨_, rfl⟩
  obtain ⟨X, hX⟩ : ∃ X, X = P + U / 1048576 := ⟨_, rfl⟩
  obtain ⟨X', hX'⟩ : ∃ X, X = P' + U' / 1048576 := ⟨_, rfl⟩
  have hv : Hid (∀ r : Bool, (X' ≠ X → r = decide ((X' : Int) < X)) → (X' = X → U' % 1048576 ≠ U % 1048576 → r = decide ((U' : Int) % 1048576 < (U : Int) % 1048576)) → (X' = X → U' % 1048576 = U % 1048576 → r = decide ((S' : Int) % 1048576 < (S : Int) % 1048576)) → r = decide (c * d < a * b)) := by
    intro r h1 h2 h3
    rw [hab, hcd]
    by_cases k1 : X' = X
    · by_cases k2 : U' % 1048576 = U % 1048576
      · rw [h3 k1 k2]; congr 1; rw [eq_iff_iff]; omega
      · rw [h2 k1 k2]; congr 1; rw [eq_iff_iff]; omega
    · rw [h1 k1]; congr 1; rw [eq_iff_iff]; omega
  have f1 : IntKind.i64.wrap ((Q : Int) + R + S / 1048576) = (U : Int) := by rw [wrap_ok (by omega) (by omega)]; omega
  have f2 : IntKind.i64.wrap ((Q' : Int) + R' + S' / 1048576) = (U' : Int) := by rw [wrap_ok (by omega) (by omega)]; omega
  have f3 : IntKind.i64.wrap ((P : Int) + U / 1048576) = (X : Int) := by rw [wrap_ok (by omega) (by omega)]; omega
  have f4 : IntKind.i64.wrap ((P' : Int) + U' / 1048576) = (X' : Int) := by rw [wrap_ok (by omega) (by omega)]; omega
  have bU : U ≤ 4398046511104 := by omega
  have bU' : U' ≤ 4398046511104 := by omega
  clear hab hcd hU hU' hX hX'
  go_enter Tryz.func51, Tryz.ntmps51
  go_wp2_with fail
  all_goals (go_returns; refine ⟨congrArg (fun b => Ending.returned (Value.bool b)) (hv.out _ ?_ ?_ ?_), by go_grown⟩)
  all_goals first
    | (have q1 : ((X : Int) != (X' : Int)) = true := (by assumption); have q2 := bne_iff_ne.1 q1; intros; first | (exfalso; omega) | (congr 1; rw [eq_iff_iff]; omega))
    | (have q1 : ((X : Int) != (X' : Int)) = false := (by assumption)
       have q2 : (X : Int) = (X' : Int) := by simpa using q1
       first
         | (have q3 : ((U : Int) % 1048576 != (U' : Int) % 1048576) = true := (by assumption); have q4 := bne_iff_ne.1 q3; intros; first | rfl | (exfalso; omega))
         | (have q3 : ((U : Int) % 1048576 != (U' : Int) % 1048576) = false := (by assumption); have q4 : (U : Int) % 1048576 = (U' : Int) % 1048576 := (by simpa using q3); intros; first | rfl | (exfalso; omega)))

end Go.Proofs.YtcgaekaollhmpaaGreat.Vs
