/-
  The reference's Append, of any log.
-/
import Derived.Test.YtplcpjngpkghmaaKe
namespace Go.Proofs.Ytplcpjngpkghmaa
open Go.RowKit Go.Maps

theorem rapp_any {w : World} {B rb : Nat} {R : RL} {v : Value} (h : RfAt w B rb R v) (hB : B ≤ w.heap.size) (ho : R.ov = false) (b : List UInt8) (q : Option Addr) (n c : Nat) (hn : n ≤ 4080) (hb : b.length = n) (hz : q = none → c = 0) (hL : Lies w q b) (hl : R.next < 1000000) :
    Calls Try.prog 38 #[.pointer (some ⟨rb, 0, none⟩), .slice q n c] w fun e w' => e = .returned (.tuple #[.int .i64 R.next, .int .i64 0]) ∧ ∃ v' a c', RfAt w' B rb (R.app ⟨b, a, c'⟩) v' ∧ Kp (· = rb) w w' ∧ ∀ k, RB rb v' (R.app ⟨b, a, c'⟩) k → RB rb v R k ∨ w.heap.size ≤ k := by
  rcases h.ps.row.2 with ⟨hv, h0⟩ | ⟨g, cap, cur, hv, _⟩
  · obtain ⟨all, first, next, syn, mb, tr, ov⟩ := R
    have ha : all = [] := List.eq_nil_of_length_eq_zero h0
    have ho' : ov = false := ho
    subst ha ho' hv
    have h1 : next ≤ 0 := h.nx
    have h2 : first ≤ next := h.fx
    have h3 : syn ≤ next := h.sx
    obtain rfl : next = 0 := by omega
    obtain rfl : first = 0 := by omega
    obtain rfl : syn = 0 := by omega
    exact rapp_nil h hB b q n c hn hb hz hL
  · subst hv
    exact rapp_some h hB ho b q n c hn hb hz hL hl
end Go.Proofs.Ytplcpjngpkghmaa
