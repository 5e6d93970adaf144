/-
  A job as bytes: addJob.
-/
import Derived.Test.YtnkkiepoljbhlaaEnd
import Derived.Test.YtnkkiepoljbhlaaFmm
namespace Go.Proofs.Ytnkkiepoljbhlaa
open Go.RowKit

/-- a list's bytes -/
def lstB {α : Type} (f : α → List UInt8) (L : List α) : List UInt8 := num L.length ++ L.flatMap f
def jobB (id : Int) (tn : ByteArray) (pr rt : Int) (A : List Int) (T : List V4) : List UInt8 := numI id ++ (txtB tn ++ (numI pr ++ (numI rt ++ (lstB numI A ++ lstB vecB T))))
/-- while a record is written: the row, and the box that it is read from -/
structure Wg (B : Nat) (w W : World) (bx : Nat) (box : Obj) (v : Value) (l : List UInt8) : Prop where
  o : Own W B v l
  b : Bw B w W
  x : W.heap[bx]? = some box
theorem Wg.next {B : Nat} {w W W' : World} {bx : Nat} {box : Obj} {v v' : Value} {l l' : List UInt8} (h : Wg B w W bx box v l) (hx : ∀ cs, box ≠ Obj.cells cs 5 (0, 0)) (o : Own W' B v' l') (b : Bw B W W') : Wg B w W' bx box v' l' := ⟨o, h.b.trans b, b.n _ _ h.x hx⟩
set_option maxHeartbeats 2000000 in
set_option maxRecDepth 100000 in
theorem addJob_at (B n : Nat) (q : Option Addr) (cp : Nat) (l : List UInt8) (id pr rt st at' sr : Int) (tn : ByteArray) (pa ta na da : Option Addr) (pn pc tk tc nn nc dn dc : Nat) (A : List Int) (T : List V4) (w : World)
    (h1 : 0 ≤ id ∧ id < 9223372036854775808) (h2 : 0 ≤ pr ∧ pr < 9223372036854775808) (h3 : 0 ≤ rt ∧ rt < 9223372036854775808) (hA : A.length = pn) (hT : T.length = tk) (hp : pn ≤ 1000) (ht : tk ≤ 1000)
    (lA : ∀ W, Below B w W → LiesV W pa (intsV A)) (lT : ∀ W, Below B w W → LiesV W ta (flat T)) (xA : ∀ x ∈ A, 0 ≤ x ∧ x < 9223372036854775808) (xT : ∀ x ∈ T, x.pos) (hown : Own w B (.slice q n cp) l) (hB : B ≤ w.heap.size) (hl : n + 100 + (jobB id tn pr rt A T).length ≤ 35184372088832) :
    Calls Try.prog 50 #[.slice q n cp, .agg #[.int .i64 id, .string tn, .int .i64 pr, .int .i64 rt, .slice pa pn pc, .slice ta tk tc, .int .i64 st, .int .i64 at', .slice na nn nc, .int .i64 sr, .slice da dn dc]] w fun e w' => ∃ q' k' c', e = .returned (.slice q' k' c') ∧ Own w' B (.slice q' k' c') (l ++ jobB id tn pr rt A T) ∧ Bw B w w' := by
  obtain ⟨box, hbox⟩ : ∃ box, box = Obj.cells #[.int .i64 id, .string tn, .int .i64 pr, .int .i64 rt, .slice pa pn pc, .slice ta tk tc, .int .i64 st, .int .i64 at', .slice na nn nc, .int .i64 sr, .slice da dn dc] 30 (0, 0) := ⟨_, rfl⟩
  have hne : ∀ cs, box ≠ Obj.cells cs 5 (0, 0) := fun cs h => by rw [hbox] at h; cases h
  have G0 : Hid (Wg B w (w.alloc (.cells #[.int .i64 id, .string tn, .int .i64 pr, .int .i64 rt, .slice pa pn pc, .slice ta tk tc, .int .i64 st, .int .i64 at', .slice na nn nc, .int .i64 sr, .slice da dn dc] 30)) w.heap.size box (.slice q n cp) l) := ⟨hown.keep ((Below.refl _ w).alloc (Nat.le_refl _) _), (Bw.refl B w).alloc hB _, by rw [hbox]; exact new0⟩
  have hlen := (own_parts hown).2.2
  have z := hl
  unfold jobB lstB at z
  simp only [List.length_append] at z
  have HC : Hid (∀ (W : World) (v : Value) (l' : List UInt8), Wg B w W w.heap.size box v l' → W.cell? ⟨w.heap.size, 0, none⟩ = some (.int .i64 id) ∧ W.cell? ⟨w.heap.size, 1, none⟩ = some (.string tn) ∧ W.cell? ⟨w.heap.size, 2, none⟩ = some (.int .i64 pr) ∧ W.cell? ⟨w.heap.size, 3, none⟩ = some (.int .i64 rt) ∧ W.cell? ⟨w.heap.size, 4, none⟩ = some (.slice pa pn pc) ∧ W.cell? ⟨w.heap.size, 5, none⟩ = some (.slice ta tk tc)) := fun W v l' h => by
    have hx := h.x
    rw [hbox] at hx
    obtain ⟨e0, e1, e2, e3, e4, e5, _⟩ := c11a hx
    exact ⟨e0, e1, e2, e3, e4, e5⟩
  have N1 : Hid (∀ (W : World) (q : Option Addr) (k c : Nat) (l' : List UInt8) (x : Int), Wg B w W w.heap.size box (.slice q k c) l' → 0 ≤ x ∧ x < 9223372036854775808 → l'.length ≤ 35184372088832 → Calls Try.prog 48 #[.slice q k c, .int .i64 x] W fun e w' => ∃ q' k' c', e = .returned (.slice q' k' c') ∧ Hid (Wg B w w' w.heap.size box (.slice q' k' c') (l' ++ numI x))) := fun W q k c l' x h hx hk => by
    have := (own_parts h.o).2.2
    refine (addNum1 B x k q c l' W hx h.o (Nat.le_trans hB h.b.size) (by omega)).mono ?_
    rintro e w' ⟨q', k', c', rfl, o, b⟩
    exact ⟨q', k', c', rfl, h.next hne o b⟩
  have N2 : Hid (∀ (W : World) (q : Option Addr) (k c : Nat) (l' : List UInt8), Wg B w W w.heap.size box (.slice q k c) l' → l'.length ≤ 35184372088832 → Calls Try.prog 47 #[.slice q k c, .string tn] W fun e w' => ∃ q' k' c', e = .returned (.slice q' k' c') ∧ Hid (Wg B w w' w.heap.size box (.slice q' k' c') (l' ++ txtB tn))) := fun W q k c l' h hk => by
    have := (own_parts h.o).2.2
    have hz : tn.size ≤ 35184372088832 := by
      unfold txtB at z
      simp only [List.length_append] at z
      rw [Lib.size_eq]
      omega
    refine (addTxt1 B k q c l' tn W h.o (Nat.le_trans hB h.b.size) (by omega) hz).mono ?_
    rintro e w' ⟨q', k', c', rfl, o, b⟩
    exact ⟨q', k', c', rfl, h.next hne o b⟩
  have N3 : Hid (∀ (W : World) (q : Option Addr) (k c : Nat) (l' : List UInt8), Wg B w W w.heap.size box (.slice q k c) l' → l'.length + 10 + (A.flatMap numI).length ≤ 35184372088832 → Calls Try.prog 70 #[.slice q k c, .slice pa pn pc, .func (.func 48) #[] #[]] W fun e w' => ∃ q' k' c', e = .returned (.slice q' k' c') ∧ Hid (Wg B w w' w.heap.size box (.slice q' k' c') (l' ++ lstB numI A))) := fun W q k c l' h hk => by
    have h9 := (own_parts h.o).2.2
    refine (addInts B k q c l' A pa pn pc W hA hp (fun W' b => lA W' (h.b.b.trans b.b)) xA h.o (Nat.le_trans hB h.b.size) (by rw [← h9]; exact hk)).mono ?_
    rintro e w' ⟨q', k', c', rfl, o, b⟩
    refine ⟨q', k', c', rfl, h.next hne ?_ b⟩
    unfold lstB
    rw [hA, ← List.append_assoc]
    exact o
  have N4 : Hid (∀ (W : World) (q : Option Addr) (k c : Nat) (l' : List UInt8), Wg B w W w.heap.size box (.slice q k c) l' → l'.length + 10 + (T.flatMap vecB).length ≤ 35184372088832 → Calls Try.prog 71 #[.slice q k c, .slice ta tk tc, .func (.func 49) #[] #[]] W fun e w' => ∃ q' k' c', e = .returned (.slice q' k' c') ∧ Hid (Wg B w w' w.heap.size box (.slice q' k' c') (l' ++ lstB vecB T))) := fun W q k c l' h hk => by
    have h9 := (own_parts h.o).2.2
    refine (addVecs B k q c l' T ta tk tc W hT ht (fun W' b => lT W' (h.b.b.trans b.b)) xT h.o (Nat.le_trans hB h.b.size) (by rw [← h9]; exact hk)).mono ?_
    rintro e w' ⟨q', k', c', rfl, o, b⟩
    refine ⟨q', k', c', rfl, h.next hne ?_ b⟩
    unfold lstB
    rw [hT, ← List.append_assoc]
    exact o
  have Z : Hid (l.length + 100 + ((numI id).length + ((txtB tn).length + ((numI pr).length + ((numI rt).length + ((num A.length).length + (A.flatMap numI).length + ((num T.length).length + (T.flatMap vecB).length)))))) ≤ 35184372088832) := by rw [hlen]; exact z
  have HX : Hid ((0 ≤ id ∧ id < 9223372036854775808) ∧ (0 ≤ pr ∧ pr < 9223372036854775808) ∧ (0 ≤ rt ∧ rt < 9223372036854775808)) := ⟨h1, h2, h3⟩
  clear hl z hlen hown hB h1 h2 h3 lA lT xA xT hA hT hp ht hne hbox
  go_enter Try.func50, Try.ntmps50
  go_upto_region 1 with fail
  generalize w.alloc (.cells #[.int .i64 id, .string tn, .int .i64 pr, .int .i64 rt, .slice pa pn pc, .slice ta tk tc, .int .i64 st, .int .i64 at', .slice na nn nc, .int .i64 sr, .slice da dn dc] 30) = W at *
  obtain ⟨e0, e1, e2, e3, e4, e5⟩ := HC.out _ _ _ G0.out
  go_upto_region 2 with (go_at_call 48; refine (N1.out _ _ _ _ _ _ G0.out HX.out.1 (by have := Z.out; omega)).mono ?_; rintro e w1 ⟨q1, k1, c1, rfl, G1⟩)
  clear e0 e1 e2 e3 e4 e5 G0
  obtain ⟨e0, e1, e2, e3, e4, e5⟩ := HC.out _ _ _ G1.out
  go_upto_region 3 with (go_at_call 47; refine (N2.out _ _ _ _ _ G1.out (by have := Z.out; simp only [List.length_append]; omega)).mono ?_; rintro e w2 ⟨q2, k2, c2, rfl, G2⟩)
  clear e0 e1 e2 e3 e4 e5 G1
  obtain ⟨e0, e1, e2, e3, e4, e5⟩ := HC.out _ _ _ G2.out
  go_upto_region 4 with (go_at_call 48; refine (N1.out _ _ _ _ _ _ G2.out HX.out.2.1 (by have := Z.out; simp only [List.length_append]; omega)).mono ?_; rintro e w3 ⟨q3, k3, c3, rfl, G3⟩)
  clear e0 e1 e2 e3 e4 e5 G2
  obtain ⟨e0, e1, e2, e3, e4, e5⟩ := HC.out _ _ _ G3.out
  go_upto_region 5 with (go_at_call 48; refine (N1.out _ _ _ _ _ _ G3.out HX.out.2.2 (by have := Z.out; simp only [List.length_append]; omega)).mono ?_; rintro e w4 ⟨q4, k4, c4, rfl, G4⟩)
  clear e0 e1 e2 e3 e4 e5 G3
  obtain ⟨e0, e1, e2, e3, e4, e5⟩ := HC.out _ _ _ G4.out
  go_upto_region 6 with (go_at_call 70; refine (N3.out _ _ _ _ _ G4.out (by have := Z.out; simp only [List.length_append]; omega)).mono ?_; rintro e w5 ⟨q5, k5, c5, rfl, G5⟩)
  clear e0 e1 e2 e3 e4 e5 G4
  obtain ⟨e0, e1, e2, e3, e4, e5⟩ := HC.out _ _ _ G5.out
  go_wp2_with (go_at_call 71; refine (N4.out _ _ _ _ _ G5.out (by have := Z.out; unfold lstB; simp only [List.length_append]; omega)).mono ?_; rintro e w6 ⟨q6, k6, c6, rfl, G6⟩)
  go_ret
  refine ⟨q6, k6, c6, rfl, ?_, G6.out.b⟩
  have := G6.out.o
  unfold jobB
  simpa only [List.append_assoc] using this
end Go.Proofs.Ytnkkiepoljbhlaa
