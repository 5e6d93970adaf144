/-
  awake, and the walks of VectorAsks.
-/
import Derived.Test.YtcgaekaollhmpaaGreatCWalkG
import Derived.Lib.QuietBelow
import Derived.Deep.RegionHeld3
import Derived.Deep.CutRange
import Derived.Deep.DeepCutAuto
namespace Go.Proofs.YtcgaekaollhmpaaGreat.Vs
open Go.RowKit Go.Sort

theorem boxes {w : World} {a b c d e f g h : Value} {s t : TypeId} :
    ((w.alloc (.cells #[a, b, c, d] s)).alloc (.cells #[e, f, g, h] t)).cell? ⟨w.heap.size, 0, none⟩ = some a ∧ ((w.alloc (.cells #[a, b, c, d] s)).alloc (.cells #[e, f, g, h] t)).cell? ⟨w.heap.size, 1, none⟩ = some b ∧ ((w.alloc (.cells #[a, b, c, d] s)).alloc (.cells #[e, f, g, h] t)).cell? ⟨w.heap.size, 2, none⟩ = some c ∧ ((w.alloc (.cells #[a, b, c, d] s)).alloc (.cells #[e, f, g, h] t)).cell? ⟨w.heap.size, 3, none⟩ = some d ∧
    ((w.alloc (.cells #[a, b, c, d] s)).alloc (.cells #[e, f, g, h] t)).cell? ⟨w.heap.size + 1, 0, none⟩ = some e ∧ ((w.alloc (.cells #[a, b, c, d] s)).alloc (.cells #[e, f, g, h] t)).cell? ⟨w.heap.size + 1, 1, none⟩ = some f ∧ ((w.alloc (.cells #[a, b, c, d] s)).alloc (.cells #[e, f, g, h] t)).cell? ⟨w.heap.size + 1, 2, none⟩ = some g ∧ ((w.alloc (.cells #[a, b, c, d] s)).alloc (.cells #[e, f, g, h] t)).cell? ⟨w.heap.size + 1, 3, none⟩ = some h :=
  ⟨Lib.cell_of_heap first0 0, Lib.cell_of_heap first0 1, Lib.cell_of_heap first0 2, Lib.cell_of_heap first0 3, Lib.cell_of_heap first1 0, Lib.cell_of_heap first1 1, Lib.cell_of_heap first1 2, Lib.cell_of_heap first1 3⟩

theorem grown {W : World} {f : FuncId} {args : Array Value} {v : Value} (H : Hid (∀ w, Calls Tryz.prog f args w fun e w' => e = .returned v ∧ Below w.heap.size w w')) :
    Hid (∀ d os, Calls Tryz.prog f args (grow (redrawn W d) os) fun e w'' => e = .returned v ∧ ∃ p : Regrown, w'' = grow (redrawn W p.d) p.os) := fun _ _ => Calls.regrown_of (H.out _)

end Go.Proofs.YtcgaekaollhmpaaGreat.Vs
