/-
  The document's Moved: what is kept while tasks are reckoned.
-/
import Derived.Test.YtjgibngnjlciaaaGreatMa
import Derived.Deep.RegionWith
namespace Go.Proofs.YtjgibngnjlciaaaGreat
open Go.RowKit Go.Maps Go.WideMaps Go.Sort

structure Mr (w wr : World) (f : V → V → V × Nat) (T : List V) (N : List (List UInt8)) (S : List Sl) (p : Option Addr) (m c k : Nat) (S' : List Sl) : Prop where
  f : movG f ((T.zip N).take k) S = some S'
  l : RR w.heap.size wr (.slice p m c) S'
  b : Below w.heap.size w wr
  n : S'.map Sl.nm = S.map Sl.nm
theorem Mr.below {w wr w1 : World} {f : V → V → V × Nat} {T : List V} {N : List (List UInt8)} {S : List Sl} {p : Option Addr} {m c k : Nat} {S' : List Sl} (h : Mr w wr f T N S p m c k S') (b : Below wr.heap.size wr w1) : Mr w w1 f T N S p m c k S' :=
  ⟨h.f, h.l.below b, below_from h.b b h.b.size, h.n⟩
theorem Mr.wrote {w wr : World} {f : V → V → V × Nat} {T : List V} {N : List (List UInt8)} {S : List Sl} {m c k j gl : Nat} {S' : List Sl} {v : V} {nm : List UInt8} {s : Sl} (h : Mr w wr f T N S (some ⟨gl, 0, none⟩) m c k S') (hv : T[k]? = some v) (hn : N[k]? = some nm) (hp : plc nm S = some j) (hs : S'[j]? = some s) (h0 : (f s.v v).2 = 0) :
    Mr w ((((wr.setCell ⟨gl, j * 5 + 1, none⟩ (.int .i64 (f s.v v).1.a)).setCell ⟨gl, j * 5 + 1 + 1, none⟩ (.int .i64 (f s.v v).1.b)).setCell ⟨gl, j * 5 + 1 + 2, none⟩ (.int .i64 (f s.v v).1.c)).setCell ⟨gl, j * 5 + 1 + 3, none⟩ (.int .i64 (f s.v v).1.d)) f T N S (some ⟨gl, 0, none⟩) m c (k + 1) (S'.set j ⟨s.nm, (f s.v v).1⟩) := by
  have hg := h.l.ge (g := gl) rfl
  refine ⟨?_, grow_free _ h.l hs, (((h.b.setCell hg _).setCell hg _).setCell hg _).setCell hg _, (set_nm hs _).trans h.n⟩
  rw [take_next (zip_at hv hn), movG_append, h.f]
  show (stepM f (v, nm) S').bind (movG f []) = _
  rw [stepM_some (by rw [plc_nm h.n]; exact hp) hs, if_pos h0]
  rfl
def RMovP (f : V → V → V × Nat) (w : World) (T : List V) (N : List (List UInt8)) (S : List Sl) (e : Ending) (w' : World) : Prop :=
  ∃ p k c, e = .returned (.tuple #[.slice p k c, .int .i64 ((movR f T N S).1 : Nat)]) ∧ (movR f T N S).2.length = k ∧ Hid (RR w.heap.size w' (.slice p k c) (movR f T N S).2 ∧ Below w.heap.size w w')
end Go.Proofs.YtjgibngnjlciaaaGreat
