/-
  The document's Same of slots; PlaceMoves' law.
-/
import Derived.Test.YtjgibngnjlciaaaGreatMb
import Derived.Test.YtjgibngnjlciaaaGreatMc
import Derived.Test.YtjgibngnjlciaaaGreatMe
import Derived.Test.YtjgibngnjlciaaaGreatMf
import Derived.Laws.StructEq
namespace Go.Proofs.YtjgibngnjlciaaaGreat
open Go.RowKit Go.Maps Go.WideMaps Go.Sort

theorem eqv (a b c d : Int) (w : World) : (Op.equalIn 9999 40 (.agg #[.int .i64 a, .int .i64 b, .int .i64 c, .int .i64 d]) (.agg #[.int .i64 a, .int .i64 b, .int .i64 c, .int .i64 d])).run Tryz.prog w = .ok true w := by
  have eqi (a : Int) (w : World) : (Op.equalIn 9998 2 (.int .i64 a) (.int .i64 a)).run Tryz.prog w = .ok (a == a) w := run_equalIn_int w 9997 2 .i64 .i64 a a Tryz.underlying2
  rw [run_equalIn_array w 9998 _ _ Tryz.underlying40 (info_of_underlying Tryz.underlying2).choose_spec, cells2]
  rw [show List.range 4 = [0, 1, 2, 3] from rfl]
  simp [Op.eqItems, part0, part1, part2, part3, eqi]
theorem prs0 (x y z u v : Value) (w : World) : (part 9 #[x, y, z, u, v] 0).run Tryz.prog w = .ok x w := by kernel_rfl
theorem prs1 (x y z u v : Value) (w : World) : (part 40 #[x, y, z, u, v] 1).run Tryz.prog w = .ok (.agg #[y, z, u, v]) w := by kernel_rfl
set_option maxRecDepth 100000 in
theorem eq62 (s : ByteArray) (a b c d : Int) (w : World) : (Op.equalIn 10000 55 (.agg #[.string s, .int .i64 a, .int .i64 b, .int .i64 c, .int .i64 d]) (.agg #[.string s, .int .i64 a, .int .i64 b, .int .i64 c, .int .i64 d])).run Tryz.prog w = .ok true w := by
  have eqs (w : World) : (Op.equalIn 9999 9 (.string s) (.string s)).run Tryz.prog w = .ok (s.toList == s.toList) w := run_equalIn_string w 9998 9 s s Tryz.underlying9
  rw [run_equalIn_struct w 9999 55 _ _ Tryz.underlying55 (by kernel_rfl)]
  simp [Program.fieldsOf, Tryz.underlying55, Op.eqFields, prs0, prs1, eqv, eqs]
theorem movG_len (f : V → V → V × Nat) : ∀ (l : List (V × List UInt8)) (S S' : List Sl), movG f l S = some S' → S'.length = S.length ∧ S'.map Sl.nm = S.map Sl.nm
  | [], S, S', h => by cases h; exact ⟨rfl, rfl⟩
  | x :: r, S, S', h => by
    have h' : (stepM f x S).bind (movG f r) = some S' := h
    obtain ⟨s1, h1, h2⟩ := Option.bind_eq_some_iff.1 h'
    obtain ⟨i1, i2⟩ := movG_len f r s1 S' h2
    unfold stepM at h1
    split at h1
    · cases h1
    · rename_i k hk
      split at h1
      · cases h1
        obtain ⟨a, ha, _⟩ := plc_some hk
        have e : S.getD k default = a := by rw [List.getD_eq_getElem?_getD, ha]; rfl
        rw [List.length_set] at i1
        rw [e, set_nm ha] at i2
        exact ⟨i1, i2⟩
      · cases h1
theorem movR_len (f : V → V → V × Nat) (T : List V) (N : List (List UInt8)) (S : List Sl) : ((movR f T N S).1 = 0 ∧ (movR f T N S).2.length = S.length ∧ (movR f T N S).2.map Sl.nm = S.map Sl.nm) ∨ ((movR f T N S).1 ≠ 0 ∧ (movR f T N S).2 = []) := by
  unfold movR
  split
  · split
    · split
      · split
        · exact .inr ⟨by decide, rfl⟩
        · rename_i S' h
          exact .inl ⟨rfl, movG_len f _ _ _ h⟩
      · exact .inr ⟨by decide, rfl⟩
    · exact .inr ⟨by decide, rfl⟩
  · rename_i hc
    exact .inr ⟨hc, rfl⟩
theorem movR_le (f : V → V → V × Nat) (T : List V) (N : List (List UInt8)) (S : List Sl) : (movR f T N S).2.length ≤ S.length := by
  rcases movR_len f T N S with ⟨_, h, _⟩ | ⟨_, h⟩
  · omega
  · rw [h]; exact Nat.zero_le _
theorem few_le {n m : Nat} (h : fewB n m = true) : n ≤ 100 ∧ m ≤ 100 := by unfold fewB at h; simpa using h
end Go.Proofs.YtjgibngnjlciaaaGreat
