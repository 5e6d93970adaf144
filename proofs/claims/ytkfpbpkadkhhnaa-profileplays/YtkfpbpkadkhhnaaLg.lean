/-
  Two profiles, one behind the other.
-/
import Derived.Test.YtkfpbpkadkhhnaaLd
import Derived.Test.YtkfpbpkadkhhnaaLf
import Derived.Laws.StructEq
namespace Go.Proofs.Ytkfpbpkadkhhnaa
open Go.RowKit Go.Maps Go.Sort

theorem part46a (x y z u v : Value) (w : World) : (part 2 #[x, y, z, u, v] 0).run Try.prog w = .ok x w := by kernel_rfl
theorem part46b (x y z u v : Value) (w : World) : (part 23 #[x, y, z, u, v] 1).run Try.prog w = .ok (.agg #[y, z, u, v]) w := by kernel_rfl
theorem eq4n (v : V) (w : World) : (Op.equalIn 9999 23 (.agg #[.int .i64 v.a, .int .i64 v.b, .int .i64 v.c, .int .i64 v.d]) (.agg #[.int .i64 v.a, .int .i64 v.b, .int .i64 v.c, .int .i64 v.d])).run Try.prog w = .ok true w := by
  have eqi (a : Int) (w : World) : (Op.equalIn 9998 2 (.int .i64 a) (.int .i64 a)).run Try.prog w = .ok (a == a) w := run_equalIn_int w 9997 2 .i64 .i64 a a Try.underlying2
  rw [run_equalIn_array w 9998 _ _ Try.underlying23 (info_of_underlying Try.underlying2).choose_spec, cells2]
  rw [show List.range 4 = [0, 1, 2, 3] from rfl]
  simp [Op.eqItems, part0, part1, part2, part3, eqi]
theorem eq46 (s : St) (w : World) : (Op.equalIn 10000 46 (.agg #[.int .i64 s.at', .int .i64 s.fr.a, .int .i64 s.fr.b, .int .i64 s.fr.c, .int .i64 s.fr.d]) (.agg #[.int .i64 s.at', .int .i64 s.fr.a, .int .i64 s.fr.b, .int .i64 s.fr.c, .int .i64 s.fr.d])).run Try.prog w = .ok true w := by
  rw [run_equalIn_struct w 9999 46 _ _ Try.underlying46 (by kernel_rfl)]
  simp [Program.fieldsOf, Try.underlying46, Op.eqFields, part46a, part46b, eqi, eq4n]
/-- what the first profile's blocks hold -/
noncomputable def keptX (w : World) (pa : Nat) (S : PS) : Nat → Option Obj := fun j => if j = pa then w.heap[j]? else if S.lv.ownBlock = some j then w.heap[j]? else none
theorem keptX_fp {w : World} {pa : Nat} {S : PS} (h : Mem w pa S) {j : Nat} (q : Fp pa S j) : ∃ o, keptX w pa S j = some o ∧ w.heap[j]? = some o := by
  have hlt := h.lt j q
  refine ⟨w.heap[j], ?_, Array.getElem?_eq_getElem hlt⟩
  unfold keptX
  rcases q with rfl | q
  · rw [if_pos rfl]; exact Array.getElem?_eq_getElem hlt
  · split
    · exact Array.getElem?_eq_getElem hlt
    · simp [hlt]
theorem keptX_of {w : World} {pa : Nat} {S : PS} {j : Nat} {o : Obj} (h : keptX w pa S j = some o) : Fp pa S j ∧ w.heap[j]? = some o := by
  unfold keptX at h
  split at h
  · rename_i e; exact ⟨.inl e, h⟩
  · split at h
    · rename_i e; exact ⟨.inr e, h⟩
    · cases h
abbrev pZ (C : V) : Obj := .cells #[.int .i64 C.a, .int .i64 C.b, .int .i64 C.c, .int .i64 C.d, .slice none 0 0, .int .i64 0] 58 (0, 0)
/-- the second profile's turn -/
theorem Lw.swap {w0 w : World} {pa pb : Nat} {X : Nat → Option Obj} {S : PS} (h : Lw w0 w pa X S) (hX : X pb = some (pZ S.C)) (hpb : w0.heap.size ≤ pb) : LL w0 w pb (keptX w pa S) S.C (fun _ => S.C) 0 := by
  obtain ⟨h1, h2⟩ := h.x pb _ hX
  refine ⟨⟨S.C, .slice none 0 0, [], 0⟩, ⟨⟨h1, Row.nil _⟩, ⟨Pf.nil h.o.p.ck, Nat.zero_le _, Nat.zero_le _⟩, h.b, fun j q => ?_, fun j o q => ?_⟩, rfl, fun _ => rfl, rfl⟩
  · rcases q with rfl | q
    · exact hpb
    · cases q
  · obtain ⟨k1, k2⟩ := keptX_of q
    refine ⟨k2, fun q' => ?_⟩
    rcases q' with rfl | q'
    · exact h2 k1
    · cases q'
theorem LL.other {w0 w w' : World} {pa pb : Nat} {S : PS} {C : V} {f : Int → V} {n : Nat} (hm : Mem w pa S) (h : LL w0 w' pb (keptX w pa S) C f n) : Mem w' pa S :=
  hm.keep fun k q => by
    obtain ⟨o, e1, e2⟩ := keptX_fp hm q
    rw [e2]
    exact h.box e1
end Go.Proofs.Ytkfpbpkadkhhnaa
