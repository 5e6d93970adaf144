/-
  WireBack: its two halves, kind by kind out of contracts.
-/
import Derived.Test.YtnkkiepoljbhlaaBc
import Derived.Test.YtnkkiepoljbhlaaBa
import Derived.Test.YtnkkiepoljbhlaaDj
import Derived.Test.YtnkkiepoljbhlaaEni
import Derived.Test.YtnkkiepoljbhlaaLwj
namespace Go.Proofs.Ytnkkiepoljbhlaa
open Go.RowKit

theorem bw_low {B B' : Nat} {w w1 : World} (h : Bw B w w1) (hB : B' ≤ B) : Bw B' w w1 := ⟨h.b.mono hB, h.n⟩

section
variable (v : Value) (w : World) (Q : Value → World → Prop)
  (H20 : Calls Try.prog 20 #[v] w fun e w' => ∃ r, e = .returned r ∧ Below w.heap.size w w' ∧ Q r w')
set_option maxHeartbeats 400000 in
include H20 in
theorem benc_no (H21 : ∀ r W, Q r W → Calls Try.prog 21 #[r] W fun e w' => e = .returned (.bool false) ∧ Below W.heap.size W w') :
    Calls Try.prog 10 #[v] w fun e w' => e = .returned (.tuple #[.slice none 0 0, .int .i64 4]) ∧ Below w.heap.size w w' := by
  have K20 : Hid (Calls Try.prog 20 #[v] w fun e w' => ∃ r, e = .returned r ∧ Hid (Below w.heap.size w w' ∧ Q r w')) := H20
  have K21 : Hid (∀ r W, Q r W → Calls Try.prog 21 #[r] W fun e w' => e = .returned (.bool false) ∧ Hid (Below W.heap.size W w')) := H21
  clear H20 H21
  go_enter Try.func10, Try.ntmps10
  go_wp2_with (first
    | (go_at_call 20; refine K20.out.mono ?_; rintro e w1 ⟨r, rfl, b1⟩)
    | (go_at_call 21; refine (K21.out _ _ b1.out.2).mono ?_; rintro e w2 ⟨rfl, b2⟩))
  go_ret2
  exact ⟨rfl, below_from b1.out.1 b2.out b1.out.1.size⟩
set_option maxHeartbeats 400000 in
include H20 in
theorem benc_yes (l : List UInt8) (H21 : ∀ r W, Q r W → Calls Try.prog 21 #[r] W fun e w' => e = .returned (.bool true) ∧ Below W.heap.size W w')
    (H22 : ∀ r W W', Q r W → Below W.heap.size W W' → Calls Try.prog 22 #[r] W' fun e w' => ∃ q' k' c', e = .returned (.slice q' k' c') ∧ Own w' W'.heap.size (.slice q' k' c') l ∧ Bw W'.heap.size W' w') :
    Calls Try.prog 10 #[v] w fun e w' => ∃ q' k' c', e = .returned (.tuple #[.slice q' k' c', .int .i64 0]) ∧ Own w' w.heap.size (.slice q' k' c') l ∧ Below w.heap.size w w' := by
  have K20 : Hid (Calls Try.prog 20 #[v] w fun e w' => ∃ r, e = .returned r ∧ Hid (Below w.heap.size w w' ∧ Q r w')) := H20
  have K21 : Hid (∀ r W, Q r W → Calls Try.prog 21 #[r] W fun e w' => e = .returned (.bool true) ∧ Hid (Below W.heap.size W w')) := H21
  have K22 : Hid (∀ r W W', Q r W → Below W.heap.size W W' → Calls Try.prog 22 #[r] W' fun e w' => ∃ q' k' c', e = .returned (.slice q' k' c') ∧ Hid (Own w' W'.heap.size (.slice q' k' c') l ∧ Bw W'.heap.size W' w')) := H22
  clear H20 H21 H22
  go_enter Try.func10, Try.ntmps10
  go_wp2_with (first
    | (go_at_call 20; refine K20.out.mono ?_; rintro e w1 ⟨r, rfl, b1⟩)
    | (go_at_call 21; refine (K21.out _ _ b1.out.2).mono ?_; rintro e w2 ⟨rfl, b2⟩)
    | (go_at_call 22; refine (K22.out _ _ _ b1.out.2 b2.out).mono ?_; rintro e w3 ⟨q3, k3, c3, rfl, o3⟩))
  go_ret2
  have y2 := below_from b1.out.1 b2.out b1.out.1.size
  exact ⟨q3, k3, c3, rfl, o3.out.1.low y2.size, below_from y2 o3.out.2.b y2.size⟩
end
/-- a row of bytes that was made, as bytes to be read -/
theorem byt_own {w : World} {B k c : Nat} {q : Option Addr} {l : List UInt8} (h : Own w B (.slice q k c) l) (hl : l.length < 1152921504606846976) : k = l.length ∧ Byt w w.heap.size q c l := by
  obtain ⟨h1, h2, h3⟩ := own_parts h
  have hlt := World.ownsRow.lt h
  refine ⟨h3.symm, h1, h2, fun a e => ?_, ?_, hl⟩
  · rcases h.2 with ⟨e', h0⟩ | ⟨g, cap, cur, e', _⟩
    · cases e'; cases e
    · cases e'
      cases e
      exact ⟨(hlt g rfl).2, rfl⟩
  · rcases h.2 with ⟨e', h0⟩ | ⟨g, cap, cur, e', _, _, hc, _⟩
    · omega
    · cases e'
      exact hc
theorem Byt.fwd {w W : World} {p : Option Addr} {c : Nat} {l : List UInt8} (h : Byt w w.heap.size p c l) (b : Below w.heap.size w W) : Byt W W.heap.size p c l := by
  refine ⟨?_, h.nc, fun a e => ?_, h.cm⟩
  · rcases h.ly with e | ⟨g, o, e, hr⟩
    · exact .inl e
    · exact .inr ⟨g, o, e, hr.keep b (Nat.le_refl _)⟩
  · have := h.bl a e
    exact ⟨Nat.lt_of_lt_of_le this.1 b.size, this.2⟩

/-- bytes that are decoded, and encoded again -/
def HalfB (a : Option Addr) (n c : Nat) (w : World) : Prop := ∃ (Y : Value → World → Prop) (T : Option Addr → Nat → Nat → World → Prop),
  (∀ W, Below w.heap.size w W → Calls Try.prog 15 #[.slice a n c] W fun e w' => ∃ (x : Value) (er : Int), e = .returned (.tuple #[x, .int .i64 er]) ∧ Below W.heap.size W w' ∧ (er ≠ 0 ∨ (er = 0 ∧ Y x w'))) ∧
  (∀ x W, Below w.heap.size w W → Y x W → Calls Try.prog 10 #[x] W fun e w' => ∃ (q : Option Addr) (k c' : Nat), e = .returned (.tuple #[.slice q k c', .int .i64 0]) ∧ Below W.heap.size W w' ∧ T q k c' w') ∧
  (∀ q k c' W, Below w.heap.size w W → T q k c' W → Calls Try.prog 12 #[.slice q k c', .slice a n c] W fun e w' => e = .returned (.bool true) ∧ Below W.heap.size W w')
/-- a record that is encoded, and decoded again -/
def HalfA (p : PL) (w : World) : Prop := ∃ (R : Value) (Z : Option Addr → Nat → Nat → World → Prop) (X : Value → World → Prop) (U V : PL → World → Prop),
  (∀ W, Below w.heap.size w W → Calls Try.prog 8 #[.agg p.cells] W fun e w' => e = .returned R ∧ Below W.heap.size W w') ∧
  (∀ W, Below w.heap.size w W → Calls Try.prog 10 #[R] W fun e w' => ∃ (q : Option Addr) (k c' : Nat) (er : Int), e = .returned (.tuple #[.slice q k c', .int .i64 er]) ∧ Below W.heap.size W w' ∧ (er ≠ 0 ∨ (er = 0 ∧ Z q k c' w'))) ∧
  (∀ q k c' W, Below w.heap.size w W → Z q k c' W → Calls Try.prog 15 #[.slice q k c'] W fun e w' => ∃ x : Value, e = .returned (.tuple #[x, .int .i64 0]) ∧ Below W.heap.size W w' ∧ X x w') ∧
  (∀ x W, Below w.heap.size w W → X x W → Calls Try.prog 9 #[x] W fun e w' => ∃ u : PL, e = .returned (.agg u.cells) ∧ Below W.heap.size W w' ∧ U u w') ∧
  (∀ u W W', U u W → Below W.heap.size W W' → U u W') ∧
  (∀ W, Below w.heap.size w W → Calls Try.prog 9 #[R] W fun e w' => ∃ v : PL, e = .returned (.agg v.cells) ∧ Below W.heap.size W w' ∧ V v w') ∧
  (∀ u v W, Below w.heap.size w W → U u W → V v W → Calls Try.prog 17 #[.agg u.cells, .agg v.cells] W fun e w' => e = .returned (.bool true) ∧ Below W.heap.size W w')
theorem back_of (p : PL) (a : Option Addr) (n c : Nat) (w : World) (hA : HalfA p w) (hB : HalfB a n c w) :
    Calls Try.prog 5 #[.agg p.cells, .slice a n c] w fun e w' => e = .returned (.bool true) ∧ Below w.heap.size w w' := by
  obtain ⟨R, Z, X, U, V, h1, h2, h3, h4, h5, h6, h7⟩ := hA
  obtain ⟨Y, T, k1, k2, k3⟩ := hB
  exact law_back p a n c w R Z X Y U V T h1 h2 h3 h4 h5 h6 h7 k1 k2 k3

section
variable {β : Type} (w : World) (a : Option Addr) (c : Nat) (l : List UInt8) (kn : Nat) (R : β → PL) (M : β → World → Prop) (st : Option (List UInt8)) (ok : Bool)
theorem halfB_kind (hB : Byt w w.heap.size a c l)
    (HRec : ∀ rb W, Rd W rb (some l) → Calls Try.prog 33 #[.pointer (some ⟨rb, 0, none⟩)] W fun e w' => ∃ y, e = .returned ((R y).rcd kn) ∧ Hid (Rd w' rb st ∧ RdK rb W w' ∧ M y w'))
    (HF15 : ∀ y W, M y W → Calls Try.prog 21 #[(R y).rcd kn] W fun e w' => e = .returned (.bool ok) ∧ Below W.heap.size W w')
    (HM : ∀ y W W', M y W → Below W.heap.size W W' → M y W')
    (HPn : ∀ y W, Calls Try.prog 9 #[(R y).rcd kn] W fun e w' => e = .returned (.agg ((R y).norm kn).cells) ∧ Below W.heap.size W w')
    (HMk : ∀ y W, Calls Try.prog 8 #[.agg ((R y).norm kn).cells] W fun e w' => e = .returned ((R y).rcd kn) ∧ Below W.heap.size W w')
    (H22 : st = some [] → ok = true → ∀ y W, M y W → Calls Try.prog 22 #[(R y).rcd kn] W fun e w' => ∃ q' k' c', e = .returned (.slice q' k' c') ∧ Own w' W.heap.size (.slice q' k' c') l ∧ Bw W.heap.size W w') :
    HalfB a l.length c w := by
  refine ⟨fun x W => ∃ y, x = (R y).rcd kn ∧ M y W ∧ st = some [] ∧ ok = true, fun q k c' W => k = l.length ∧ Lies W q l, fun W b => ?_, fun x W b hx => ?_, fun q k c' W b hT => ?_⟩
  · refine (decode_gen W a c l (hB.fwd b) (fun y => (R y).rcd kn) st M ok (fun W' h1 _ => HRec _ W' h1) HF15 HM).mono ?_
    rintro e w' ⟨q1, ⟨h1, h2, y, q2, q3⟩ | ⟨-, q2⟩⟩
    · exact ⟨_, 0, q2, q1, .inr ⟨rfl, y, rfl, q3, h1, h2⟩⟩
    · exact ⟨_, 12, q2, q1, .inl (by decide)⟩
  · obtain ⟨y, rfl, hM, h1, h2⟩ := hx
    have K20 : Calls Try.prog 20 #[(R y).rcd kn] W fun e w' => ∃ r, e = .returned r ∧ Below W.heap.size W w' ∧ (r = (R y).rcd kn ∧ M y w') := (remade_at _ _ _ W (fun W => HPn y W) (fun W => HMk y W)).mono fun e w' ⟨q1, q2⟩ => ⟨_, q1, q2, rfl, HM _ _ _ hM q2⟩
    refine (benc_yes ((R y).rcd kn) W (fun r W' => r = (R y).rcd kn ∧ M y W') K20 l (fun r W' ⟨q1, q2⟩ => by rw [q1, ← h2]; exact HF15 y W' q2) (fun r W' W'' ⟨q1, q2⟩ b' => by rw [q1]; exact H22 h1 h2 y W'' (HM _ _ _ q2 b'))).mono ?_
    rintro e w' ⟨q, k, c', q1, q2, q3⟩
    exact ⟨q, k, c', q1, q3, (own_parts q2).2.2.symm, (own_parts q2).1⟩
  · obtain ⟨rfl, hL⟩ := hT
    refine (same_any l l q a c' c W hB.cm.2 hL (hB.fwd b).ly).mono ?_
    rintro e w' ⟨q1, q2⟩
    exact ⟨by rw [q1]; simp, q2⟩
/-- bytes of no kind -/
theorem halfB_no (hno : ∀ W, Below w.heap.size w W → Calls Try.prog 15 #[.slice a l.length c] W fun e w' => e = .returned (.tuple #[.nilIface, .int .i64 12]) ∧ Below W.heap.size W w') : HalfB a l.length c w :=
  ⟨fun _ _ => False, fun _ _ _ _ => False, fun W b => (hno W b).mono fun _ _ ⟨q1, q2⟩ => ⟨_, 12, q1, q2, .inl (by decide)⟩, fun _ _ _ h => h.elim, fun _ _ _ _ _ h => h.elim⟩
end

section
variable {β : Type} (p : PL) (w : World) (kn : Nat) (F : Bool) (l : List UInt8) (R : β → PL) (M : β → World → Prop)
theorem halfA_kind (hl : F = true → l.length < 1152921504606846976)
    (HM8 : ∀ W, Calls Try.prog 8 #[.agg p.cells] W fun e w' => e = .returned (p.rcd kn) ∧ Below W.heap.size W w')
    (HP9 : ∀ W, Calls Try.prog 9 #[p.rcd kn] W fun e w' => e = .returned (.agg (p.norm kn).cells) ∧ Below W.heap.size W w')
    (H20 : ∀ W, Calls Try.prog 20 #[p.rcd kn] W fun e w' => e = .returned (p.rcd kn) ∧ Below W.heap.size W w')
    (H21 : ∀ W, Below w.heap.size w W → Calls Try.prog 21 #[p.rcd kn] W fun e w' => e = .returned (.bool F) ∧ Below W.heap.size W w')
    (H22 : F = true → ∀ W, Below w.heap.size w W → Calls Try.prog 22 #[p.rcd kn] W fun e w' => ∃ q' k' c', e = .returned (.slice q' k' c') ∧ Own w' W.heap.size (.slice q' k' c') l ∧ Bw W.heap.size W w')
    (HRec : F = true → ∀ rb W, Rd W rb (some l) → Calls Try.prog 33 #[.pointer (some ⟨rb, 0, none⟩)] W fun e w' => ∃ y, e = .returned ((R y).rcd kn) ∧ Hid (Rd w' rb (some []) ∧ RdK rb W w' ∧ M y w'))
    (HF15 : F = true → ∀ y W, M y W → Calls Try.prog 21 #[(R y).rcd kn] W fun e w' => e = .returned (.bool true) ∧ Below W.heap.size W w')
    (HM : ∀ y W W', M y W → Below W.heap.size W W' → M y W')
    (HPn : ∀ y W, Calls Try.prog 9 #[(R y).rcd kn] W fun e w' => e = .returned (.agg ((R y).norm kn).cells) ∧ Below W.heap.size W w')
    (HS : F = true → ∀ y W, Below w.heap.size w W → M y W → Calls Try.prog 17 #[.agg ((R y).norm kn).cells, .agg (p.norm kn).cells] W fun e w' => e = .returned (.bool true) ∧ Below W.heap.size W w') :
    HalfA p w := by
  refine ⟨p.rcd kn, fun q k c' W => F = true ∧ k = l.length ∧ Byt W W.heap.size q c' l, fun x W => F = true ∧ ∃ y, x = (R y).rcd kn ∧ M y W, fun u W => F = true ∧ ∃ y, u = (R y).norm kn ∧ M y W, fun v _ => v = p.norm kn, fun W _ => HM8 W, fun W b => ?_, fun q k c' W b hZ => ?_, fun x W b hX => ?_, fun u W W' hU b => ?_, fun W b => ?_, fun u v W b hU hV => ?_⟩
  · have K20 : Calls Try.prog 20 #[p.rcd kn] W fun e w' => ∃ r, e = .returned r ∧ Below W.heap.size W w' ∧ (r = p.rcd kn ∧ Below w.heap.size w w') := (H20 W).mono fun e w' ⟨h1, h2⟩ => ⟨_, h1, h2, rfl, below_from b h2 b.size⟩
    cases hF : F with
    | false =>
      refine (benc_no _ W (fun r W' => r = p.rcd kn ∧ Below w.heap.size w W') K20 fun r W' ⟨h1, h2⟩ => by rw [h1, ← hF]; exact H21 W' h2).mono ?_
      rintro e w' ⟨q1, q2⟩
      exact ⟨none, 0, 0, 4, q1, q2, .inl (by decide)⟩
    | true =>
      refine (benc_yes _ W (fun r W' => r = p.rcd kn ∧ Below w.heap.size w W') K20 l (fun r W' ⟨h1, h2⟩ => by rw [h1, ← hF]; exact H21 W' h2) (fun r W' W'' ⟨h1, h2⟩ h3 => by rw [h1]; exact H22 hF W'' (below_from h2 h3 h2.size))).mono ?_
      rintro e w' ⟨q, k, c', q1, q2, q3⟩
      obtain ⟨e1, e2⟩ := byt_own q2 (hl hF)
      exact ⟨q, k, c', 0, q1, q3, .inr ⟨rfl, rfl, e1, e2⟩⟩
  · obtain ⟨hF, rfl, hB⟩ := hZ
    refine (decode_gen W q c' l hB (fun y => (R y).rcd kn) (some []) M true (fun W' h1 _ => HRec hF _ W' h1) (HF15 hF) HM).mono ?_
    rintro e w' ⟨q1, ⟨-, -, y, q2, q3⟩ | ⟨q2, -⟩⟩
    · exact ⟨_, q2, q1, hF, y, rfl, q3⟩
    · exact absurd ⟨rfl, rfl⟩ q2
  · obtain ⟨hF, y, rfl, hM⟩ := hX
    exact (HPn y W).mono fun e w' ⟨q1, q2⟩ => ⟨_, q1, q2, hF, y, rfl, HM _ _ _ hM q2⟩
  · obtain ⟨hF, y, h1, h2⟩ := hU
    exact ⟨hF, y, h1, HM _ _ _ h2 b⟩
  · exact (HP9 W).mono fun e w' ⟨q1, q2⟩ => ⟨_, q1, q2, rfl⟩
  · obtain ⟨hF, y, rfl, hM⟩ := hU
    subst hV
    exact HS hF y W b hM
end
end Go.Proofs.Ytnkkiepoljbhlaa
