/-
  Two vectors held against each other by '=='.
-/
import Derived.Test.YtcndmhanabgamaaRows
import Derived.WalkKit
import Derived.DeepKeys
namespace Go.Proofs.Ytcndmhanabgamaa
open Go.RowKit

theorem cells2 : Try.prog.cellsOf 2 = 1 := by kernel_rfl
theorem part0 (x y z u : Value) (w : World) : (part 2 #[x, y, z, u] 0).run Try.prog w = .ok x w := by kernel_rfl
theorem part1 (x y z u : Value) (w : World) : (part 2 #[x, y, z, u] 1).run Try.prog w = .ok y w := by kernel_rfl
theorem part2 (x y z u : Value) (w : World) : (part 2 #[x, y, z, u] 2).run Try.prog w = .ok z w := by kernel_rfl
theorem part3 (x y z u : Value) (w : World) : (part 2 #[x, y, z, u] 3).run Try.prog w = .ok u w := by kernel_rfl
theorem eqi (a e : Int) (w : World) : (Op.equalIn 9999 2 (.int .i64 a) (.int .i64 e)).run Try.prog w = .ok (a == e) w := run_equalIn_int w 9998 2 .i64 .i64 a e Try.underlying2

theorem eq4 (a b c d e f g h : Int) (w : World) :
    (Op.equalIn 10000 23 (.agg #[.int .i64 a, .int .i64 b, .int .i64 c, .int .i64 d]) (.agg #[.int .i64 e, .int .i64 f, .int .i64 g, .int .i64 h])).run Try.prog w = .ok (a == e && (b == f && (c == g && d == h))) w := by
  rw [run_equalIn_array w 9999 _ _ Try.underlying23 (info_of_underlying Try.underlying2).choose_spec, cells2]
  rw [show List.range 4 = [0, 1, 2, 3] from rfl]
  by_cases h1 : a = e <;> by_cases h2 : b = f <;> by_cases h3 : c = g <;> by_cases h4 : d = h <;> simp [Op.eqItems, part0, part1, part2, part3, eqi, h1, h2, h3, h4]

end Go.Proofs.Ytcndmhanabgamaa
