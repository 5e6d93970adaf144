/-
  WireBack: the law out of contracts.
-/
import Derived.Test.YtnkkiepoljbhlaaPn
import Derived.Test.YtnkkiepoljbhlaaAwk
namespace Go.Proofs.Ytnkkiepoljbhlaa
open Go.RowKit

set_option maxHeartbeats 4000000 in
set_option maxRecDepth 100000 in
theorem law_back (p : PL) (a : Option Addr) (n c : Nat) (w : World) (R : Value) (Z : Option Addr → Nat → Nat → World → Prop) (X Y : Value → World → Prop) (U V : PL → World → Prop) (T : Option Addr → Nat → Nat → World → Prop)
    (H8 : ∀ W, Below w.heap.size w W → Calls Try.prog 8 #[.agg p.cells] W fun e w' => e = .returned R ∧ Below W.heap.size W w')
    (H10 : ∀ W, Below w.heap.size w W → Calls Try.prog 10 #[R] W fun e w' => ∃ (q : Option Addr) (k c' : Nat) (er : Int), e = .returned (.tuple #[.slice q k c', .int .i64 er]) ∧ Below W.heap.size W w' ∧ (er ≠ 0 ∨ (er = 0 ∧ Z q k c' w')))
    (H15 : ∀ q k c' W, Below w.heap.size w W → Z q k c' W → Calls Try.prog 15 #[.slice q k c'] W fun e w' => ∃ x : Value, e = .returned (.tuple #[x, .int .i64 0]) ∧ Below W.heap.size W w' ∧ X x w')
    (H9x : ∀ x W, Below w.heap.size w W → X x W → Calls Try.prog 9 #[x] W fun e w' => ∃ u : PL, e = .returned (.agg u.cells) ∧ Below W.heap.size W w' ∧ U u w')
    (HU : ∀ u W W', U u W → Below W.heap.size W W' → U u W')
    (H9r : ∀ W, Below w.heap.size w W → Calls Try.prog 9 #[R] W fun e w' => ∃ v : PL, e = .returned (.agg v.cells) ∧ Below W.heap.size W w' ∧ V v w')
    (H17 : ∀ u v W, Below w.heap.size w W → U u W → V v W → Calls Try.prog 17 #[.agg u.cells, .agg v.cells] W fun e w' => e = .returned (.bool true) ∧ Below W.heap.size W w')
    (H15b : ∀ W, Below w.heap.size w W → Calls Try.prog 15 #[.slice a n c] W fun e w' => ∃ (x : Value) (er : Int), e = .returned (.tuple #[x, .int .i64 er]) ∧ Below W.heap.size W w' ∧ (er ≠ 0 ∨ (er = 0 ∧ Y x w')))
    (H10b : ∀ x W, Below w.heap.size w W → Y x W → Calls Try.prog 10 #[x] W fun e w' => ∃ (q : Option Addr) (k c' : Nat), e = .returned (.tuple #[.slice q k c', .int .i64 0]) ∧ Below W.heap.size W w' ∧ T q k c' w')
    (H12 : ∀ q k c' W, Below w.heap.size w W → T q k c' W → Calls Try.prog 12 #[.slice q k c', .slice a n c] W fun e w' => e = .returned (.bool true) ∧ Below W.heap.size W w') :
    Calls Try.prog 5 #[.agg p.cells, .slice a n c] w fun e w' => e = .returned (.bool true) ∧ Below w.heap.size w w' := by
  have K8 : Hid (∀ W, Below w.heap.size w W → Calls Try.prog 8 #[.agg p.cells] W fun e w' => e = .returned R ∧ Hid (Below w.heap.size w w')) := fun W b => (H8 W b).mono fun e w' ⟨h1, h2⟩ => ⟨h1, below_from b h2 b.size⟩
  have K10 : Hid (∀ W, Below w.heap.size w W → Calls Try.prog 10 #[R] W fun e w' => ∃ (q : Option Addr) (k c' : Nat) (er : Int), e = .returned (.tuple #[.slice q k c', .int .i64 er]) ∧ Hid (Below w.heap.size w w') ∧ (((er == 0) = false ∧ (er = 0) = False) ∨ (er = 0 ∧ Hid (Z q k c' w')))) := fun W b => (H10 W b).mono fun e w' ⟨q, k, c', er, h1, h2, h3⟩ => ⟨q, k, c', er, h1, below_from b h2 b.size, h3.imp (fun h => ⟨by simpa using h, by simpa using h⟩) id⟩
  have K15 : Hid (∀ q k c' W, Below w.heap.size w W → Z q k c' W → Calls Try.prog 15 #[.slice q k c'] W fun e w' => ∃ x : Value, e = .returned (.tuple #[x, .int .i64 0]) ∧ Hid (Below w.heap.size w w' ∧ X x w')) := fun q k c' W b z => (H15 q k c' W b z).mono fun e w' ⟨x, h1, h2, h3⟩ => ⟨x, h1, below_from b h2 b.size, h3⟩
  have K9x : Hid (∀ x W, Below w.heap.size w W → X x W → Calls Try.prog 9 #[x] W fun e w' => ∃ u : PL, e = .returned (.agg u.cells) ∧ Hid (Below w.heap.size w w' ∧ U u w')) := fun x W b z => (H9x x W b z).mono fun e w' ⟨x, h1, h2, h3⟩ => ⟨x, h1, below_from b h2 b.size, h3⟩
  have K9r : Hid (∀ u W, Below w.heap.size w W → U u W → Calls Try.prog 9 #[R] W fun e w' => ∃ v : PL, e = .returned (.agg v.cells) ∧ Hid (Below w.heap.size w w' ∧ U u w' ∧ V v w')) := fun u W b z => (H9r W b).mono fun e w' ⟨v, h1, h2, h3⟩ => ⟨v, h1, below_from b h2 b.size, HU _ _ _ z h2, h3⟩
  have K17 : Hid (∀ u v W, Below w.heap.size w W → U u W → V v W → Calls Try.prog 17 #[.agg u.cells, .agg v.cells] W fun e w' => e = .returned (.bool true) ∧ Hid (Below w.heap.size w w')) := fun u v W b z z' => (H17 u v W b z z').mono fun e w' ⟨h1, h2⟩ => ⟨h1, below_from b h2 b.size⟩
  have K15b : Hid (∀ W, Below w.heap.size w W → Calls Try.prog 15 #[.slice a n c] W fun e w' => ∃ (x : Value) (er : Int), e = .returned (.tuple #[x, .int .i64 er]) ∧ Hid (Below w.heap.size w w') ∧ (((er == 0) = false ∧ (er = 0) = False) ∨ (er = 0 ∧ Hid (Y x w')))) := fun W b => (H15b W b).mono fun e w' ⟨x, er, h1, h2, h3⟩ => ⟨x, er, h1, below_from b h2 b.size, h3.imp (fun h => ⟨by simpa using h, by simpa using h⟩) id⟩
  have K10b : Hid (∀ x W, Below w.heap.size w W → Y x W → Calls Try.prog 10 #[x] W fun e w' => ∃ (q : Option Addr) (k c' : Nat), e = .returned (.tuple #[.slice q k c', .int .i64 0]) ∧ Hid (Below w.heap.size w w' ∧ T q k c' w')) := fun x W b z => (H10b x W b z).mono fun e w' ⟨q, k, c', h1, h2, h3⟩ => ⟨q, k, c', h1, below_from b h2 b.size, h3⟩
  have K12 : Hid (∀ q k c' W, Below w.heap.size w W → T q k c' W → Calls Try.prog 12 #[.slice q k c', .slice a n c] W fun e w' => e = .returned (.bool true) ∧ Hid (Below w.heap.size w w')) := fun q k c' W b z => (H12 q k c' W b z).mono fun e w' ⟨h1, h2⟩ => ⟨h1, below_from b h2 b.size⟩
  have SZ : Hid ((Try.prog.info? 32).map (·.size) = some p.cells.size) := size32
  clear H8 H10 H15 H9x HU H9r H17 H15b H10b H12
  go_enter Try.func5, Try.ntmps5
  go_upto_region 1 with fail
  refine (?_ : ∀ W, Hid (W.heap[w.heap.size]? = some (.cells p.cells 32 (0, 0)) ∧ Below w.heap.size w W) → Code.wp Try.prog _ _ _ W) _ ⟨new0, (Below.refl _ w).alloc (Nat.le_refl _) _⟩
  intro W0 H0
  go_upto_region 3 with (go_at_call 7; refine (awake_any _).mono ?_; rintro e w1 ⟨rfl, b1⟩)
  have H1 : Hid (w1.heap[w.heap.size]? = some (.cells p.cells 32 (0, 0)) ∧ Below w.heap.size w w1) := ⟨at_below b1 (Nat.le_refl _) H0.out.1, below_from H0.out.2 b1 H0.out.2.size⟩
  clear b1
  go_upto_region 9 with (first
    | refine wpList_load_row rfl 32 _ rfl w.heap.size rfl 32 p.cells (0, 0) _ H1.out.1 Try.underlying32 rfl SZ.out ?_
    | (go_at_call 8; refine (K8.out _ H1.out.2).mono ?_; rintro e w2 ⟨rfl, b2⟩)
    | (go_at_call 10; refine (K10.out _ b2.out).mono ?_; rintro e w3 ⟨q, k, c', er, rfl, b3, ⟨z1, z2⟩ | ⟨rfl, z3⟩⟩)
    | (go_at_call 15; refine (K15.out _ _ _ _ b3.out z3.out).mono ?_; rintro e w4 ⟨x, rfl, h4⟩)
    | (go_at_call 17; refine (K17.out _ _ _ h6.out.1 h6.out.2.1 h6.out.2.2).mono ?_; rintro e w7 ⟨rfl, b3⟩)
    | (go_at_call 9; first | (refine (K9r.out _ _ h5.out.1 h5.out.2).mono ?_; rintro e w6 ⟨v, rfl, h6⟩) | (refine (K9x.out _ _ h4.out.1 h4.out.2).mono ?_; rintro e w5 ⟨u, rfl, h5⟩)))
  all_goals
    go_wp2_with (first
      | (go_at_call 15; refine (K15b.out _ b3.out).mono ?_; rintro e w8 ⟨xb, eb, rfl, b8, ⟨z4, z5⟩ | ⟨rfl, z6⟩⟩)
      | (go_at_call 10; refine (K10b.out _ _ b8.out z6.out).mono ?_; rintro e w9 ⟨qb, kb, cb, rfl, h9⟩)
      | (go_at_call 12; refine (K12.out _ _ _ _ h9.out.1 h9.out.2).mono ?_; rintro e wA ⟨rfl, b8⟩))
  all_goals
    go_ret
    exact ⟨rfl, b8.out⟩
end Go.Proofs.Ytnkkiepoljbhlaa
