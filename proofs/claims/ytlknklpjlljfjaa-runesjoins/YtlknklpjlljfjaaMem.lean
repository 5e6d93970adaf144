/-
  What of the memory stands: an owned row of strings beside a builder and an iterator.
-/
import Derived.Test.YtlknklpjlljfjaaBuild
import Derived.Test.YtlknklpjlljfjaaMach
namespace Go.Proofs.Ytlknklpjlljfjaa
open Go.RowKit

def strV (l : List UInt8) : Value := .string ⟨l.toArray⟩

theorem infoString : (Try.prog.info? 9).map (fun i => (i.zero, i.size, i.bytes)) = some (some (.string ⟨#[]⟩), 1, 16) := by kernel_rfl

/-- an owned row stands where its own block stands -/
theorem own_of_heap {w w' : World} {B e size n : Nat} {v : Value} {xs : List Value} (h : w.ownsRow B e size v n xs) (hk : ∀ g, v.ownBlock = some g → w'.heap[g]? = w.heap[g]?) : w'.ownsRow B e size v n xs := by
  refine ⟨h.1, ?_⟩
  rcases h.2 with hn | ⟨g, cap, cur, rfl, hb, hg, rest⟩
  · exact .inl hn
  · exact .inr ⟨g, cap, cur, rfl, hb, (hk g rfl).trans hg, rest⟩

theorem own_kind {w : World} {B e size n : Nat} {v : Value} {xs : List Value} (h : w.ownsRow B e size v n xs) {g : Nat} (hg : v.ownBlock = some g) : ∃ c, w.heap[g]? = some (.cells c e (0, 0)) := by
  rcases h.2 with ⟨rfl, _⟩ | ⟨g', cap, cur, rfl, hb, hgg, rest⟩
  · simp [Value.ownBlock] at hg
  · simp [Value.ownBlock] at hg
    subst hg
    exact ⟨cur, hgg⟩

theorem own_others {w w' : World} {B n b : Nat} {v : Value} {xs : List Value} (h : w.ownsRow B 9 1 v n xs) (k : Lib.OthersKept 5 (some b) w w') {c : Array Value} {fz : Nat × Nat} (hb : w.heap[b]? = some (.cells c 40 fz)) : w'.ownsRow B 9 1 v n xs := by
  refine own_of_heap h fun g hg => ?_
  obtain ⟨cur, hc⟩ := own_kind h hg
  rw [hc]
  refine k g _ hc (fun e => ?_) (fun c' fz' e => by cases e)
  rw [Option.some.inj e, hb] at hc
  cases hc

theorem own_iterAt {w : World} {B n k pos : Nat} {v : Value} {xs : List Value} {s : ByteArray} (h : w.ownsRow B 9 1 v n xs) (hk : w.heap[k]? = some (.stringIter s pos)) (pos' : Nat) : (w.iterAt k s pos').ownsRow B 9 1 v n xs := by
  refine own_of_heap h fun g hg => ?_
  obtain ⟨cur, hc⟩ := own_kind h hg
  refine Lib.iterAt_other w k g s pos' (fun e => ?_)
  rw [e, hk] at hc
  cases hc

/-- the two cells of a builder -/
theorem builder_cells {B b : Nat} {bs : List Value} {w : World} (h : Lib.IsBuilderF 40 5 B b bs w) :
    ∃ x y, w.heap[b]? = some (.cells #[x, y] 40 (0, 0)) ∧ (x = .pointer none ∨ x = .pointer (some ⟨b, 0, none⟩)) ∧ ∃ a n c, y = .slice a n c := by
  rcases h with ⟨_, v, hb, hown, _⟩ | ⟨_, v, hb, hown, _⟩
  all_goals
    have hv : ∃ a n c, v = .slice a n c := by
      rcases hown.2 with ⟨hv, _⟩ | ⟨g, cap, cur, fz, hv, _⟩
      · exact ⟨_, _, _, hv⟩
      · exact ⟨_, _, _, hv⟩
  · exact ⟨_, v, hb, .inl rfl, hv⟩
  · exact ⟨_, v, hb, .inr rfl, hv⟩

/-- the world behind Reset -/
def wiped (w : World) (b : Nat) : World := (w.setCell ⟨b, 0, none⟩ (.pointer none)).setCell ⟨b, 1, none⟩ (.slice none 0 0)

theorem wiped_other (w : World) (b k : Nat) (h : k ≠ b) : (wiped w b).heap[k]? = w.heap[k]? := by
  unfold wiped
  rw [Below.heap_setCell _ _ _ _ h, Below.heap_setCell _ _ _ _ h]

theorem wiped_self {w : World} {b : Nat} {x y : Value} (hb : w.heap[b]? = some (.cells #[x, y] 40 (0, 0))) : (wiped w b).heap[b]? = some (.cells #[.pointer none, .slice none 0 0] 40 (0, 0)) := by
  unfold wiped World.setCell
  simp [Array.getElem?_modify, hb]

theorem wiped_builder {w : World} {b B : Nat} {x y : Value} (hB : B ≤ b) (hb : w.heap[b]? = some (.cells #[x, y] 40 (0, 0))) : Lib.IsBuilderF 40 5 B b [] (wiped w b) :=
  .inl ⟨hB, _, wiped_self hb, World.ownsRowF_nil _ _ _ _, by simp [Value.ownBlock]⟩

theorem wiped_below {w a : World} {b B : Nat} (h : Below B a w) (hB : B ≤ b) : Below B a (wiped w b) :=
  (h.setCell (p := ⟨b, 0, none⟩) hB _).setCell (p := ⟨b, 1, none⟩) hB _

theorem wiped_size (w : World) (b : Nat) : (wiped w b).heap.size = w.heap.size := by simp [wiped, World.setCell]

end Go.Proofs.Ytlknklpjlljfjaa
