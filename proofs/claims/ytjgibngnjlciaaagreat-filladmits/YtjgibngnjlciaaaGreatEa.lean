/-
  Runs as plain data; their rows in memory.
-/
import Derived.Test.YtjgibngnjlciaaaGreatLa
namespace Go.Proofs.YtjgibngnjlciaaaGreat
open Go.RowKit Go.Maps

/-- a run (number, end), with the headers of its two rows -/
structure Vi where
  j : Int
  p : Int
  qT : Option Addr
  nT : Nat
  cT : Nat
  qN : Option Addr
  nN : Nat
  cN : Nat
  T : List V
  N : List (List UInt8)
def viC (v : Vi) : List Value := [.int .i64 v.j, .int .i64 v.p, .slice v.qT v.nT v.cT, .slice v.qN v.nN v.cN]
theorem viC_len (v : Vi) : (viC v).length = 4 := rfl
theorem viC_one (v : Vi) : ∀ u ∈ viC v, u.oneCell' = true := by
  intro u hu
  simp only [viC, List.mem_cons, List.not_mem_nil, or_false] at hu
  rcases hu with rfl | rfl | rfl | rfl <;> rfl
abbrev in64 (x : Int) : Prop := -9223372036854775808 ≤ x ∧ x < 9223372036854775808
structure Vi.ok (w : World) (v : Vi) : Prop where
  j : in64 v.j
  p : in64 v.p
  t : TA w v.qT v.T
  ct : v.qT = none → v.cT = 0
  lt : v.T.length = v.nT
  n : NA w v.qN v.N
  cn : v.qN = none → v.cN = 0
  ln : v.N.length = v.nN
  sn : ∀ s ∈ v.N, s.length ≤ 281474976710656
  mt : v.nT ≤ 1000000
  mn : v.nN ≤ 1000000
theorem Vi.ok.below {w w1 : World} {v : Vi} (h : v.ok w) (b : Below w.heap.size w w1) : v.ok w1 := ⟨h.j, h.p, h.t.below b, h.ct, h.lt, h.n.below b, h.cn, h.ln, h.sn, h.mt, h.mn⟩
/-- its numbers are numbers -/
def Vi.in6 (v : Vi) : Prop := in64 v.j ∧ in64 v.p
def VIn (L : List Vi) : Prop := ∀ v ∈ L, v.in6
theorem Vi.ok.in6 {w : World} {v : Vi} (h : v.ok w) : v.in6 := ⟨h.j, h.p⟩
def VOk (w : World) (L : List Vi) : Prop := ∀ v ∈ L, v.ok w
theorem VOk.below {w w1 : World} {L : List Vi} (h : VOk w L) (b : Below w.heap.size w w1) : VOk w1 L := fun v hv => (h v hv).below b
theorem VOk.in6 {w : World} {L : List Vi} (h : VOk w L) : VIn L := fun v hv => (h v hv).in6
abbrev VA (w : World) (q : Option Addr) (L : List Vi) : Prop := GA 4 viC w q L
theorem VA.at {w : World} {q : Option Addr} {L : List Vi} (h : VA w q L) {i : Nat} {v : Vi} (hi : L[i]? = some v) : ∃ g o, q = some ⟨g, o, none⟩ ∧ w.cell? ⟨g, o + i * 4, none⟩ = some (.int .i64 v.j) ∧ w.cell? ⟨g, o + i * 4 + 1, none⟩ = some (.int .i64 v.p) ∧ w.cell? ⟨g, o + i * 4 + 2, none⟩ = some (.slice v.qT v.nT v.cT) ∧ w.cell? ⟨g, o + i * 4 + 3, none⟩ = some (.slice v.qN v.nN v.cN) := by
  obtain ⟨g, o, e, hc⟩ := h i v hi
  exact ⟨g, o, e, hc 0 _ rfl, hc 1 _ rfl, hc 2 _ rfl, hc 3 _ rfl⟩
end Go.Proofs.YtjgibngnjlciaaaGreat
