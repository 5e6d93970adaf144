/-
  Rows of bytes that are owned: cells, stores; a disk of one file.
-/
import Derived.Test.YtplcpjngpkghmaaWg
import Derived.Laws.IdiomStrings
import Derived.Lib.SlBytesConst
namespace Go.Proofs.Ytplcpjngpkghmaa
open Go.RowKit Go.Maps Go.WideMaps

theorem str_of_own {w : World} {B : Nat} {v : Value} {l : List UInt8} (h : Own w B v l) (hl : l ≠ []) : (convert 31 9 v).run Try.prog w = .ok (.string ⟨l.toArray⟩) w := by
  obtain ⟨a, c, rfl, hL, -⟩ := h.shape
  rcases hL with h | ⟨g, o, rfl, hr⟩
  · exact absurd h hl
  · refine run_convert_bytes_back w 31 9 5 ⟨g, o, none⟩ c l Try.underlying31 Try.underlying5 Try.underlying9 fun j hj => ?_
    rw [Addr.add_lit]
    exact hr j _ (List.getElem?_eq_getElem hj)

theorem row_new {w : World} {l : List UInt8} {fr : Nat × Nat} : Row (w.alloc (.cells ⟨bv l⟩ 5 fr)) w.heap.size 0 l := fun k x hx => by
  have h : (w.alloc (.cells ⟨bv l⟩ 5 fr)).heap[w.heap.size]? = some (.cells ⟨bv l⟩ 5 fr) := new0
  have := bv_get hx
  simp only [World.cell?, h, Nat.zero_add]
  simpa using this
/-- the disk with one file "a" with the byte x -/
def DK.aw : DK := ⟨[⟨[97], [120], 0⟩], false, none⟩
theorem Own.posn {w : World} {B : Nat} {v : Value} {l : List UInt8} (h : Own w B v l) (hl : 0 < l.length) : ∃ g c, v = .slice (some ⟨g, 0, none⟩) l.length c ∧ B ≤ g ∧ g < w.heap.size := by
  rcases h.2 with ⟨_, h0⟩ | ⟨g, cap, cur, rfl, hb, hgg, _⟩
  · omega
  · exact ⟨g, cap, rfl, hb, (Array.getElem?_eq_some_iff.1 hgg).1⟩
theorem Own.cell {w : World} {B g n c : Nat} {l : List UInt8} (h : Own w B (.slice (some ⟨g, 0, none⟩) n c) l) {k : Nat} {x : UInt8} (hx : l[k]? = some x) : w.cell? ⟨g, k, none⟩ = some (.int .u8 x.toNat) := by
  have hc := World.ownsRow.cells h (g := g) rfl k _ (bv_get hx)
  rwa [Addr.add_lit, Nat.zero_add] at hc
theorem Own.free {w : World} {B g n c : Nat} {l : List UInt8} (h : Own w B (.slice (some ⟨g, 0, none⟩) n c) l) (k : Nat) : w.frozen? ⟨g, k, none⟩ = false := by
  rcases h.2 with ⟨e, _⟩ | ⟨g', cap, cur, e, hb, hgg, _⟩
  · cases e
  · cases e; exact fz hgg k
theorem Own.set {w : World} {B g n c : Nat} {l : List UInt8} (h : Own w B (.slice (some ⟨g, 0, none⟩) n c) l) {k : Nat} (y : UInt8) : Own (w.setCell ⟨g, k, none⟩ (.int .u8 y.toNat)) B (.slice (some ⟨g, 0, none⟩) n c) (l.set k y) := by
  refine ⟨by rw [bv_length, Nat.mul_one], ?_⟩
  rcases h.2 with ⟨e, _⟩ | ⟨g', cap, cur, e, hb, hgg, h1, h2, h3, h4⟩
  · cases e
  · cases e
    refine .inr ⟨g, c, cur.setIfInBounds k (.int .u8 y.toNat), by rw [List.length_set], hb, setB hgg _, by rw [List.length_set]; exact h1, h2, by rw [Array.size_setIfInBounds]; exact h3, ?_⟩
    rw [List.length_set, Array.toList_setIfInBounds, List.take_set, h4]
    unfold bv
    rw [List.map_set]
theorem inv_byte (x : UInt8) : ((255 : Int) - (x.toNat : Int)) = ((255 - x : UInt8).toNat : Int) := by
  have h : x ≤ 255 := by
    rw [UInt8.le_iff_toNat_le]; have := x.toNat_lt; show x.toNat ≤ 255; omega
  have := x.toNat_lt
  rw [UInt8.toNat_sub_of_le _ _ h]
  show (255 : Int) - (x.toNat : Int) = ((255 - x.toNat : Nat) : Int)
  omega

def DK.one (l : List UInt8) : DK := ⟨[⟨[97], l, 0⟩], false, none⟩
theorem one_append (l : List UInt8) (h : l.length ≤ 1048576) : appendD DK.new [97] l = (0, DK.one l) := by
  have e1 : okN [97] = true := by decide
  have e2 : fnd Fil.nm [97] DK.new.fs = none := rfl
  unfold appendD
  rw [e1, e2]
  have e3 : ¬ 1048576 < l.length := by omega
  simp [DK.new, e3, burn, ins, DK.one]
theorem one_read (l : List UInt8) : readD (DK.one l) [97] = (0, l) := by rfl
theorem lo_own {w : World} {tg : Nat → Tg} {B : Nat} {q : Option Addr} {k c : Nat} {l : List UInt8} (h : Own w B (.slice q k c) l) (ht : ∀ g, B ≤ g → tg g = .no) : LiesOff w tg q l := by
  by_cases h0 : l.length = 0
  · exact .inl (List.eq_nil_of_length_eq_zero h0)
  · obtain ⟨g, c', e, h1, h2⟩ := h.posn (by omega)
    cases e
    exact .inr ⟨g, 0, rfl, fun i x hx => by rw [Nat.zero_add]; exact h.cell hx, h2, ht g h1⟩

end Go.Proofs.Ytplcpjngpkghmaa
