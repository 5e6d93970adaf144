/-
  The document's queue: plain, its Push on an empty list, List, same.
-/
import Derived.Test.YthlbeofonbbbdaaQm
namespace Go.Proofs.Ythlbeofonbbbdaa
open Go.RowKit Go.Maps Go.WideMaps

/-- rows of the document's waiters -/
abbrev RRow (b : Nat) (w : World) (v : Value) (L : List J) : Prop := GRow 56 3 wC b w v L
theorem info56 : (Try.prog.info? 56).map (fun i => (i.zero, i.size, i.bytes)) = some (some (.agg #[.int .i64 0, .string ⟨#[]⟩, .int .i64 0]), 3, 32) := by kernel_rfl
theorem plain_any (w : World) (j p : Int) (s : ByteArray) : Calls Try.prog 20 #[.agg #[.int .i64 j, .string s, .int .i64 p]] w fun e w' => e = .returned (.agg #[.int .i64 j, .string s, .int .i64 p]) ∧ Hid (Below w.heap.size w w') := by
  go_enter Try.func20, Try.ntmps20
  go_wp2_with fail
  refine bodyPost_ret (by simp [results, Try.results20, go_sem]; rfl) rfl ?_
  exact ⟨rfl, by unfold Hid; go_grown⟩
theorem rfind_zero (w : World) (rb : Nat) (x : Int) (c0 : w.cell? ⟨rb, 0, none⟩ = some (.slice none 0 0)) : Calls Try.prog 37 #[.pointer (some ⟨rb, 0, none⟩), .int .i64 x] w fun e w' => e = .returned (.int .i64 (-1)) ∧ w' = w := by
  go_enter Try.func37, Try.ntmps37
  go_wp2_with fail
  refine wp_loop_rounds 1 ?_
  rw [rounds_succ]
  go_wp2_with fail
  go_ret
  exact ⟨rfl, rfl⟩
set_option maxHeartbeats 1000000 in
set_option maxRecDepth 100000 in
theorem rpush_bad (w : World) (rb : Nat) (x : J) (s : ByteArray) (hx : x.ok = false) : Calls Try.prog 19 #[.pointer (some ⟨rb, 0, none⟩), .agg #[.int .i64 x.job, .string s, .int .i64 x.pr]] w fun e w' => e = .returned (.int .i64 2) ∧ Below w.heap.size w w' := by
  obtain ⟨j, t, p⟩ := x
  have hx' : j < 1 ∨ 100 < j ∨ p < 0 ∨ 100 < p := by
    unfold J.ok at hx
    simp at hx
    by_cases h1 : 1 ≤ j
    · by_cases h2 : j ≤ 100
      · by_cases h3 : 0 ≤ p
        · have := hx h1 h2 h3; omega
        · omega
      · omega
    · omega
  clear hx
  simp only []
  by_cases h1 : j < 1
  · clear hx'
    go_enter Try.func19, Try.ntmps19
    go_wp2_with fail
    go_ret
    exact ⟨rfl, (Below.refl _ _).alloc (Nat.le_refl _) _⟩
  · by_cases h2 : 100 < j
    · clear hx'
      go_enter Try.func19, Try.ntmps19
      go_wp2_with fail
      go_ret
      exact ⟨rfl, (Below.refl _ _).alloc (Nat.le_refl _) _⟩
    · by_cases h3 : p < 0
      · clear hx'
        go_enter Try.func19, Try.ntmps19
        go_wp2_with fail
        go_ret
        exact ⟨rfl, (Below.refl _ _).alloc (Nat.le_refl _) _⟩
      · have h4 : 100 < p := by omega
        clear hx'
        go_enter Try.func19, Try.ntmps19
        go_wp2_with fail
        go_ret
        exact ⟨rfl, (Below.refl _ _).alloc (Nat.le_refl _) _⟩
end Go.Proofs.Ythlbeofonbbbdaa
