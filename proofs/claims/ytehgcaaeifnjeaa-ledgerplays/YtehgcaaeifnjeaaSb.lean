/-
  The law's step: Used and Left on both ledgers; a call of no kind; Names.
-/
import Derived.Test.YtehgcaaeifnjeaaSa
namespace Go.Proofs.Ytehgcaaeifnjeaa
open Go.RowKit Go.Maps Go.WideMaps
section
variable {w0 w : World} {pb rb : Nat} {X : Nat → Option Obj}
def v4 (x : V) : Value := .agg #[.int .i64 x.a, .int .i64 x.b, .int .i64 x.c, .int .i64 x.d]
theorem ask_used (h : P0 w0 w X pb rb) (s : ByteArray) (hs : s.size ≤ 281474976710656) : ∃ (x : V) (n : Int), ∀ W, Below w.heap.size w W →
    (Calls Try.prog 14 #[.pointer (some ⟨pb, 0, none⟩), .string s] W fun e w' => e = .returned (.tuple #[.agg #[.int .i64 x.a, .int .i64 x.b, .int .i64 x.c, .int .i64 x.d], .int .i64 n]) ∧ Hid (Below W.heap.size W w')) ∧ Calls Try.prog 15 #[.pointer (some ⟨rb, 0, none⟩), .string s] W fun e w' => e = .returned (.tuple #[.agg #[.int .i64 x.a, .int .i64 x.b, .int .i64 x.c, .int .i64 x.d], .int .i64 n]) ∧ Hid (Below W.heap.size W w') := by
  obtain ⟨D, hD⟩ := h
  refine ⟨(usedD D s.data.toList).1, (usedD D s.data.toList).2, fun W b => ?_⟩
  obtain ⟨S, T, h1, h2, -⟩ := (hD.below b).both
  exact ⟨used_any h1 s hs, rused_any h2 s.data.toList⟩
theorem ask_left (h : P0 w0 w X pb rb) (s : ByteArray) (hs : s.size ≤ 281474976710656) : ∃ (x : V) (n : Int), ∀ W, Below w.heap.size w W →
    (Calls Try.prog 27 #[.pointer (some ⟨pb, 0, none⟩), .string s] W fun e w' => e = .returned (.tuple #[.agg #[.int .i64 x.a, .int .i64 x.b, .int .i64 x.c, .int .i64 x.d], .int .i64 n]) ∧ Hid (Below W.heap.size W w')) ∧ Calls Try.prog 28 #[.pointer (some ⟨rb, 0, none⟩), .string s] W fun e w' => e = .returned (.tuple #[.agg #[.int .i64 x.a, .int .i64 x.b, .int .i64 x.c, .int .i64 x.d], .int .i64 n]) ∧ Hid (Below W.heap.size W w') := by
  obtain ⟨D, hD⟩ := h
  refine ⟨(leftD D s.data.toList).1, (leftD D s.data.toList).2, fun W b => ?_⟩
  obtain ⟨S, T, h1, h2, -⟩ := (hD.below b).both
  exact ⟨left_any h1 s hs, rleft_any h2 s.data.toList⟩
set_option maxHeartbeats 2000000 in
set_option maxRecDepth 100000 in
theorem step3 (h : Hid (P0 w0 w NX pb rb)) (s : ByteArray) (hs : Hid (s.size ≤ 281474976710656)) (v : V) (q : Option Addr) (n c : Nat) :
    Calls Try.prog 12 #[.pointer (some ⟨pb, 0, none⟩), .pointer (some ⟨rb, 0, none⟩), .agg #[.int .i64 3, .string s, .int .i64 v.a, .int .i64 v.b, .int .i64 v.c, .int .i64 v.d, .slice q n c]] w (StR w0 pb rb) := by
  obtain ⟨⟨xa, xb, xc, xd⟩, m, HX0⟩ := ask_used h.out s hs.out
  simp only [] at HX0
  have HX : Hid (∀ W, Below w.heap.size w W → (Calls Try.prog 14 #[.pointer (some ⟨pb, 0, none⟩), .string s] W fun e w' => e = .returned (.tuple #[.agg #[.int .i64 xa, .int .i64 xb, .int .i64 xc, .int .i64 xd], .int .i64 m]) ∧ Hid (Below W.heap.size W w')) ∧ Calls Try.prog 15 #[.pointer (some ⟨rb, 0, none⟩), .string s] W fun e w' => e = .returned (.tuple #[.agg #[.int .i64 xa, .int .i64 xb, .int .i64 xc, .int .i64 xd], .int .i64 m]) ∧ Hid (Below W.heap.size W w')) := HX0
  have q1 : ∀ w, (Op.equalIn 10000 33 (.agg #[.int .i64 xa, .int .i64 xb, .int .i64 xc, .int .i64 xd]) (.agg #[.int .i64 xa, .int .i64 xb, .int .i64 xc, .int .i64 xd])).run Try.prog w = .ok true w := fun w => (eq4 xa xb xc xd xa xb xc xd w).trans (by simp)
  clear HX0 hs
  have A1 := (HX.out (w.alloc (.cells #[.int .i64 3, .string s, .int .i64 v.a, .int .i64 v.b, .int .i64 v.c, .int .i64 v.d, .slice q n c] 36 (0, 0))) ((Below.refl _ _).alloc (Nat.le_refl _) _)).1
  go_enter Try.func12, Try.ntmps12
  go_upto_region 8 with (go_at_call 14; refine A1.mono ?_; rintro e w1 ⟨rfl, b1⟩)
  have hB := at_below b1.out (Nat.le_refl _) new0
  have hlt := (Array.getElem?_eq_some_iff.1 hB).1
  obtain ⟨-, d1, -⟩ := cells7 hB
  have hb1 : Below w.heap.size w w1 := ((Below.refl _ w).alloc (Nat.le_refl _) _).trans (b1.out.mono (by simp))
  have A2 := (HX.out (w1.alloc (.cells #[.int .i64 xa, .int .i64 xb, .int .i64 xc, .int .i64 xd] 33 (0, 0))) (hb1.alloc hb1.size _)).2
  have Hb1 : Hid (Below w.heap.size w w1) := hb1
  clear hB hb1 A1 b1
  go_upto_region 9 with (go_at_call 15; refine A2.mono ?_; rintro e w2 ⟨rfl, b2⟩)
  have hC := at_below b2.out (Nat.le_refl _) new0
  have hlt2 := (Array.getElem?_eq_some_iff.1 hC).1
  obtain ⟨c0, c1, c2, c3, -⟩ := cells4 hC
  have Hb2 : Hid (Below w.heap.size w w2) := (Hb1.out.alloc Hb1.out.size _).trans (b2.out.mono (by have := Hb1.out.size; simp; omega))
  clear hC A2 b2 HX
  go_wp2_with fail
  go_ret
  exact ⟨rfl, h.out.below (Hb2.out.alloc Hb2.out.size _)⟩
set_option maxHeartbeats 2000000 in
set_option maxRecDepth 100000 in
theorem step4 (h : Hid (P0 w0 w NX pb rb)) (s : ByteArray) (hs : Hid (s.size ≤ 281474976710656)) (v : V) (q : Option Addr) (n c : Nat) :
    Calls Try.prog 12 #[.pointer (some ⟨pb, 0, none⟩), .pointer (some ⟨rb, 0, none⟩), .agg #[.int .i64 4, .string s, .int .i64 v.a, .int .i64 v.b, .int .i64 v.c, .int .i64 v.d, .slice q n c]] w (StR w0 pb rb) := by
  obtain ⟨⟨xa, xb, xc, xd⟩, m, HX0⟩ := ask_left h.out s hs.out
  simp only [] at HX0
  have HX : Hid (∀ W, Below w.heap.size w W → (Calls Try.prog 27 #[.pointer (some ⟨pb, 0, none⟩), .string s] W fun e w' => e = .returned (.tuple #[.agg #[.int .i64 xa, .int .i64 xb, .int .i64 xc, .int .i64 xd], .int .i64 m]) ∧ Hid (Below W.heap.size W w')) ∧ Calls Try.prog 28 #[.pointer (some ⟨rb, 0, none⟩), .string s] W fun e w' => e = .returned (.tuple #[.agg #[.int .i64 xa, .int .i64 xb, .int .i64 xc, .int .i64 xd], .int .i64 m]) ∧ Hid (Below W.heap.size W w')) := HX0
  have q1 : ∀ w, (Op.equalIn 10000 33 (.agg #[.int .i64 xa, .int .i64 xb, .int .i64 xc, .int .i64 xd]) (.agg #[.int .i64 xa, .int .i64 xb, .int .i64 xc, .int .i64 xd])).run Try.prog w = .ok true w := fun w => (eq4 xa xb xc xd xa xb xc xd w).trans (by simp)
  clear HX0 hs
  have A1 := (HX.out (w.alloc (.cells #[.int .i64 4, .string s, .int .i64 v.a, .int .i64 v.b, .int .i64 v.c, .int .i64 v.d, .slice q n c] 36 (0, 0))) ((Below.refl _ _).alloc (Nat.le_refl _) _)).1
  go_enter Try.func12, Try.ntmps12
  go_upto_region 12 with (go_at_call 27; refine A1.mono ?_; rintro e w1 ⟨rfl, b1⟩)
  have hB := at_below b1.out (Nat.le_refl _) new0
  have hlt := (Array.getElem?_eq_some_iff.1 hB).1
  obtain ⟨-, d1, -⟩ := cells7 hB
  have hb1 : Below w.heap.size w w1 := ((Below.refl _ w).alloc (Nat.le_refl _) _).trans (b1.out.mono (by simp))
  have A2 := (HX.out (w1.alloc (.cells #[.int .i64 xa, .int .i64 xb, .int .i64 xc, .int .i64 xd] 33 (0, 0))) (hb1.alloc hb1.size _)).2
  have Hb1 : Hid (Below w.heap.size w w1) := hb1
  clear hB hb1 A1 b1
  go_upto_region 13 with (go_at_call 28; refine A2.mono ?_; rintro e w2 ⟨rfl, b2⟩)
  have hC := at_below b2.out (Nat.le_refl _) new0
  have hlt2 := (Array.getElem?_eq_some_iff.1 hC).1
  obtain ⟨c0, c1, c2, c3, -⟩ := cells4 hC
  have Hb2 : Hid (Below w.heap.size w w2) := (Hb1.out.alloc Hb1.out.size _).trans (b2.out.mono (by have := Hb1.out.size; simp; omega))
  clear hC A2 b2 HX
  go_wp2_with fail
  go_ret
  exact ⟨rfl, h.out.below (Hb2.out.alloc Hb2.out.size _)⟩
end
end Go.Proofs.Ytehgcaaeifnjeaa
