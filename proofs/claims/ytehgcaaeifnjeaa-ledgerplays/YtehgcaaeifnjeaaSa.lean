/-
  The law's step: a call on both ledgers, a kind each.
-/
import Derived.Test.YtehgcaaeifnjeaaTd
import Derived.Test.YtehgcaaeifnjeaaNm
import Derived.Test.YtehgcaaeifnjeaaRo
namespace Go.Proofs.Ytehgcaaeifnjeaa
open Go.RowKit Go.Maps Go.WideMaps

theorem cells7 {w : World} {b : Nat} {x0 x1 x2 x3 x4 x5 x6 : Value} {ty : TypeId} (h : w.heap[b]? = some (.cells #[x0, x1, x2, x3, x4, x5, x6] ty (0, 0))) : w.cell? ⟨b, 0, none⟩ = some x0 ∧ w.cell? ⟨b, 1, none⟩ = some x1 ∧ w.cell? ⟨b, 2, none⟩ = some x2 ∧ w.cell? ⟨b, 3, none⟩ = some x3 ∧ w.cell? ⟨b, 4, none⟩ = some x4 ∧ w.cell? ⟨b, 5, none⟩ = some x5 ∧ w.cell? ⟨b, 6, none⟩ = some x6 := by
  unfold World.cell?
  rw [h]
  simp
/-- what a step leaves -/
def StR (w0 : World) (pb rb : Nat) (e : Ending) (w' : World) : Prop := e = .returned (.bool true) ∧ Hid (P0 w0 w' NX pb rb)
section
variable {w0 w : World} {pb rb : Nat}
set_option maxHeartbeats 2000000 in
set_option maxRecDepth 100000 in
theorem step1 (h : Hid (P0 w0 w NX pb rb)) (s : ByteArray) (hs : Hid (s.size ≤ 281474976710656)) (v : V) (q : Option Addr) (n c : Nat) :
    Calls Try.prog 12 #[.pointer (some ⟨pb, 0, none⟩), .pointer (some ⟨rb, 0, none⟩), .agg #[.int .i64 1, .string s, .int .i64 v.a, .int .i64 v.b, .int .i64 v.c, .int .i64 v.d, .slice q n c]] w (StR w0 pb rb) := by
  have HO : Hid (∀ W, Below w.heap.size w W → W.heap[w.heap.size]? = some (.cells #[.int .i64 1, .string s, .int .i64 v.a, .int .i64 v.b, .int .i64 v.c, .int .i64 v.d, .slice q n c] 36 (0, 0)) → Calls Try.prog 18 #[.pointer (some ⟨pb, 0, none⟩), .string s, .agg #[.int .i64 v.a, .int .i64 v.b, .int .i64 v.c, .int .i64 v.d]] W fun e w' => ∃ r, e = .returned (.int .i64 r) ∧ Hid (P1 w0 w' NX pb rb w.heap.size (fun D => openD D s.data.toList v) r ∧ w'.heap[w.heap.size]? = some (.cells #[.int .i64 1, .string s, .int .i64 v.a, .int .i64 v.b, .int .i64 v.c, .int .i64 v.d, .slice q n c] 36 (0, 0)))) := fun W b hb => (p_open h.out b s hs.out v).mono fun e w' ⟨r, he, h⟩ => ⟨r, he, h.out.1, h.out.2.2 _ _ (Nat.le_refl _) hb⟩
  have HR : Hid (∀ W r, P1 w0 W NX pb rb w.heap.size (fun D => openD D s.data.toList v) r → W.heap[w.heap.size]? = some (.cells #[.int .i64 1, .string s, .int .i64 v.a, .int .i64 v.b, .int .i64 v.c, .int .i64 v.d, .slice q n c] 36 (0, 0)) → Calls Try.prog 23 #[.pointer (some ⟨rb, 0, none⟩), .string s, .agg #[.int .i64 v.a, .int .i64 v.b, .int .i64 v.c, .int .i64 v.d]] W fun e w' => e = .returned (.int .i64 r) ∧ Hid (P0 w0 w' NX pb rb ∧ w'.heap[w.heap.size]? = some (.cells #[.int .i64 1, .string s, .int .i64 v.a, .int .i64 v.b, .int .i64 v.c, .int .i64 v.d, .slice q n c] 36 (0, 0)))) := fun W r h hb => (k_open s v h (Below.refl _ _)).mono fun e w' ⟨he, h⟩ => ⟨he, h.out.1, h.out.2 _ _ (Nat.le_refl _) hb⟩
  have SS : Hid (∀ W : World, W.heap[w.heap.size]? = some (.cells #[.int .i64 1, .string s, .int .i64 v.a, .int .i64 v.b, .int .i64 v.c, .int .i64 v.d, .slice q n c] 36 (0, 0)) → W.cell? ⟨w.heap.size, 1, none⟩ = some (.string s) ∧ W.cell? ⟨w.heap.size, 2, none⟩ = some (.int .i64 v.a) ∧ W.cell? ⟨w.heap.size, 3, none⟩ = some (.int .i64 v.b) ∧ W.cell? ⟨w.heap.size, 4, none⟩ = some (.int .i64 v.c) ∧ W.cell? ⟨w.heap.size, 5, none⟩ = some (.int .i64 v.d)) := fun W h => by
    obtain ⟨-, d1, d2, d3, d4, d5, -⟩ := cells7 h
    exact ⟨d1, d2, d3, d4, d5⟩
  have zz := SS.out (w.alloc (.cells #[.int .i64 1, .string s, .int .i64 v.a, .int .i64 v.b, .int .i64 v.c, .int .i64 v.d, .slice q n c] 36 (0, 0))) new0
  have zd := SS.out ((w.alloc (.cells #[.int .i64 1, .string s, .int .i64 v.a, .int .i64 v.b, .int .i64 v.c, .int .i64 v.d, .slice q n c] 36 (0, 0))).drewN 1) new0
  have BX := HO.out ((w.alloc (.cells #[.int .i64 1, .string s, .int .i64 v.a, .int .i64 v.b, .int .i64 v.c, .int .i64 v.d, .slice q n c] 36 (0, 0))).drewN 1) (below_drewN ((Below.refl _ _).alloc (Nat.le_refl _) _) 1) new0
  clear HO h hs
  go_enter Try.func12, Try.ntmps12
  go_upto_region 3 with fail
  go_region_held3 (fun W : World => W.cell? ⟨w.heap.size, 1, none⟩ = some (.string s) ∧ W.cell? ⟨w.heap.size, 2, none⟩ = some (.int .i64 v.a) ∧ W.cell? ⟨w.heap.size, 3, none⟩ = some (.int .i64 v.b) ∧ W.cell? ⟨w.heap.size, 4, none⟩ = some (.int .i64 v.c) ∧ W.cell? ⟨w.heap.size, 5, none⟩ = some (.int .i64 v.d)) (first | (with_reducible assumption) | (with_reducible exact zd) | (exact zd) | (exact zz) | go_keep) (first
    | (go_at_call 18; refine BX.mono ?_; rintro e wA ⟨r1, rfl, hA⟩; have zz := SS.out _ hA.out.2)
    | (go_at_call 23; refine (HR.out _ _ hA.out.1 hA.out.2).mono ?_; rintro e wB ⟨rfl, hB⟩; have zz := SS.out _ hB.out.2))
  all_goals go_wp2_with fail
  all_goals go_ret
  all_goals exact ⟨by simp, hB.out.1⟩
set_option maxHeartbeats 2000000 in
set_option maxRecDepth 100000 in
theorem step2 (h : Hid (P0 w0 w NX pb rb)) (s : ByteArray) (hs : Hid (s.size ≤ 281474976710656)) (v : V) (q : Option Addr) (n c : Nat) :
    Calls Try.prog 12 #[.pointer (some ⟨pb, 0, none⟩), .pointer (some ⟨rb, 0, none⟩), .agg #[.int .i64 2, .string s, .int .i64 v.a, .int .i64 v.b, .int .i64 v.c, .int .i64 v.d, .slice q n c]] w (StR w0 pb rb) := by
  have HO : Hid (∀ W, Below w.heap.size w W → W.heap[w.heap.size]? = some (.cells #[.int .i64 2, .string s, .int .i64 v.a, .int .i64 v.b, .int .i64 v.c, .int .i64 v.d, .slice q n c] 36 (0, 0)) → Calls Try.prog 25 #[.pointer (some ⟨pb, 0, none⟩), .string s] W fun e w' => ∃ r, e = .returned (.int .i64 r) ∧ Hid (P1 w0 w' NX pb rb w.heap.size (fun D => closeD D s.data.toList) r ∧ w'.heap[w.heap.size]? = some (.cells #[.int .i64 2, .string s, .int .i64 v.a, .int .i64 v.b, .int .i64 v.c, .int .i64 v.d, .slice q n c] 36 (0, 0)))) := fun W b hb => (p_close h.out b s hs.out).mono fun e w' ⟨r, he, h⟩ => ⟨r, he, h.out.1, h.out.2.2 _ _ (Nat.le_refl _) hb⟩
  have HR : Hid (∀ W r, P1 w0 W NX pb rb w.heap.size (fun D => closeD D s.data.toList) r → W.heap[w.heap.size]? = some (.cells #[.int .i64 2, .string s, .int .i64 v.a, .int .i64 v.b, .int .i64 v.c, .int .i64 v.d, .slice q n c] 36 (0, 0)) → Calls Try.prog 26 #[.pointer (some ⟨rb, 0, none⟩), .string s] W fun e w' => e = .returned (.int .i64 r) ∧ Hid (P0 w0 w' NX pb rb ∧ w'.heap[w.heap.size]? = some (.cells #[.int .i64 2, .string s, .int .i64 v.a, .int .i64 v.b, .int .i64 v.c, .int .i64 v.d, .slice q n c] 36 (0, 0)))) := fun W r h hb => (k_close s h (Below.refl _ _)).mono fun e w' ⟨he, h⟩ => ⟨he, h.out.1, h.out.2 _ _ (Nat.le_refl _) hb⟩
  have SS : Hid (∀ W : World, W.heap[w.heap.size]? = some (.cells #[.int .i64 2, .string s, .int .i64 v.a, .int .i64 v.b, .int .i64 v.c, .int .i64 v.d, .slice q n c] 36 (0, 0)) → W.cell? ⟨w.heap.size, 1, none⟩ = some (.string s)) := fun W h => by
    obtain ⟨-, d1, -, -, -, -, -⟩ := cells7 h
    exact d1
  have zz := SS.out (w.alloc (.cells #[.int .i64 2, .string s, .int .i64 v.a, .int .i64 v.b, .int .i64 v.c, .int .i64 v.d, .slice q n c] 36 (0, 0))) new0
  have zd := SS.out ((w.alloc (.cells #[.int .i64 2, .string s, .int .i64 v.a, .int .i64 v.b, .int .i64 v.c, .int .i64 v.d, .slice q n c] 36 (0, 0))).drewN 1) new0
  have BX := HO.out ((w.alloc (.cells #[.int .i64 2, .string s, .int .i64 v.a, .int .i64 v.b, .int .i64 v.c, .int .i64 v.d, .slice q n c] 36 (0, 0))).drewN 1) (below_drewN ((Below.refl _ _).alloc (Nat.le_refl _) _) 1) new0
  clear HO h hs
  go_enter Try.func12, Try.ntmps12
  go_upto_region 5 with fail
  go_region_held3 (fun W : World => W.cell? ⟨w.heap.size, 1, none⟩ = some (.string s)) (first | (with_reducible assumption) | (with_reducible exact zd) | (exact zd) | (exact zz) | go_keep) (first
    | (go_at_call 25; refine BX.mono ?_; rintro e wA ⟨r1, rfl, hA⟩; have zz := SS.out _ hA.out.2)
    | (go_at_call 26; refine (HR.out _ _ hA.out.1 hA.out.2).mono ?_; rintro e wB ⟨rfl, hB⟩; have zz := SS.out _ hB.out.2))
  all_goals go_wp2_with fail
  all_goals go_ret
  all_goals exact ⟨by simp, hB.out.1⟩
end
end Go.Proofs.Ytehgcaaeifnjeaa
