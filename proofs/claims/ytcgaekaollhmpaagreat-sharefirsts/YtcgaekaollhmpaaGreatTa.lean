/-
  The document's usages; the laws' plain; the document's order of two tenants.
-/
import Derived.Test.YtcgaekaollhmpaaGreatSl
import Derived.Deep.RegionLaw
import Derived.Deep.AppendLies
namespace Go.Proofs.YtcgaekaollhmpaaGreat
open Go.RowKit Go.Maps Go.WideMaps

theorem info60 : (Tryz.prog.info? 53).map (fun i => (i.zero, i.size, i.bytes)) = some (some (.agg #[.string ⟨#[]⟩, .int .i64 0, .int .i64 0, .int .i64 0, .int .i64 0, .int .i64 0]), 6, 56) := by kernel_rfl
abbrev RU (b : Nat) (w : World) (v : Value) (L : List U) : Prop := GRow 53 6 uC b w v L
theorem ru_add {w wr w4 : World} {p : Option Addr} {k c g cap : Nat} {L : List U} {e : U} {xs : List Value} {o : Obj} (hL : L[k]? = some e) (hB : Below w.heap.size w wr) (hO : RU w.heap.size wr (.slice p k c) (L.take k)) (ho : w4.ownsRow w.heap.size 53 6 (.slice (some ⟨g, 0, none⟩) (k + 1) cap) (k + 1) (xs ++ uC e)) (hx : xs = (L.take k).flatMap uC) (hg : ((wr.alloc o).drew).grownBy w4 (Value.slice p k c).ownBlock) : RU w.heap.size w4 (.slice (some ⟨g, 0, none⟩) (k + 1) cap) (L.take (k + 1)) ∧ Below w.heap.size w w4 := by
  have hk := (List.getElem?_eq_some_iff.1 hL).1
  have hsz : w.heap.size ≤ ((wr.alloc o).drew).heap.size := by have := hB.size; simp; omega
  refine ⟨?_, ((hB.alloc hB.size _).drew).trans (below_grown hg hsz fun g e => hO.ge e)⟩
  unfold RU GRow
  rw [List.take_add_one, hL, List.length_append, List.length_take, Nat.min_eq_left (by omega), List.flatMap_append]
  rw [hx] at ho
  simpa using ho
set_option maxHeartbeats 2000000 in
set_option maxRecDepth 100000 in
theorem plain_raw (w : World) (s : Option Addr) (n c : Nat) (L : List U) (hl : Hid (L.length = n)) (hn : n ≤ 1000) (hr : Hid (UArg w s L)) :
    Calls Tryz.prog 7 #[.slice s n c] w fun e w' => ∃ p c', e = .returned (.slice p n c') ∧ Hid (RU w.heap.size w' (.slice p n c') L ∧ Below w.heap.size w w') := by
  obtain ⟨i0, hi, hz0, hz1, hz2⟩ := info_parts info60
  have HI : Hid (Tryz.prog.info? 53 = some i0 ∧ i0.zero = some (.agg #[.string ⟨#[]⟩, .int .i64 0, .int .i64 0, .int .i64 0, .int .i64 0, .int .i64 0]) ∧ i0.size = 6 ∧ i0.bytes = 56) := ⟨hi, hz0, hz1, hz2⟩
  clear hi hz0 hz1 hz2
  go_enter Tryz.func7, Tryz.ntmps7
  go_wp2_with fail
  go_loopw [3, 4] (fun v x wr => ∃ (k : Nat) (p : Option Addr) (c' : Nat), v = .slice p k c' ∧ x = .int .i64 k ∧ k ≤ n ∧ Hid (RU w.heap.size wr (.slice p k c') (L.take k) ∧ Below w.heap.size w wr)) (fun _ x _ => n - (intOf x).toNat)
  case atStart => exact ⟨0, none, 0, rfl, rfl, Nat.zero_le _, GRow.nil _ _ _ _ _, Below.refl _ _⟩
  case round =>
    obtain ⟨k, p, c', rfl, rfl, hk, HB⟩ := hrel
    by_cases h0 : k = n
    · subst h0
      go_wp2_with fail
      go_ret
      refine ⟨p, c', rfl, ?_, HB.out.2⟩
      have := HB.out.1
      rwa [List.take_of_length_le (by have := hl.out; omega)] at this
    · have hlt' : (k : Int) < (n : Int) := by omega
      obtain ⟨v, hv⟩ : ∃ v, L[k]? = some v := ⟨L[k]'(by have := hl.out; omega), List.getElem?_eq_getElem _⟩
      obtain ⟨q, o, rfl, c0, c1, c2, c3, c4, c5⟩ := (hr.out.below HB.out.2).c k _ hv
      have c3 : wr.cell? ⟨q, o + k * 6 + 2 + 1, none⟩ = some (.int .i64 v.v.b) := c3
      have c4 : wr.cell? ⟨q, o + k * 6 + 2 + 2, none⟩ = some (.int .i64 v.v.c) := c4
      have c5 : wr.cell? ⟨q, o + k * 6 + 2 + 3, none⟩ = some (.int .i64 v.v.d) := c5
      have O1 : Hid ((wr.alloc (.cells #[.string ⟨⟨v.nm⟩⟩, .int .i64 v.wt, .int .i64 v.v.a, .int .i64 v.v.b, .int .i64 v.v.c, .int .i64 v.v.d] 53)).drew.ownsRow w.heap.size 53 6 (.slice p k c') k ((L.take k).flatMap uC)) := by
        have := HB.out.1.below (((Below.refl _ wr).alloc (Nat.le_refl _) (.cells #[.string ⟨⟨v.nm⟩⟩, .int .i64 v.wt, .int .i64 v.v.a, .int .i64 v.v.b, .int .i64 v.v.c, .int .i64 v.v.d] 53)).drew)
        unfold GRow at this
        rwa [List.length_take, hl.out, Nat.min_eq_left hk] at this
      have HN : Hid (∀ j u, (uC v)[j]? = some u → (wr.alloc (.cells #[.string ⟨⟨v.nm⟩⟩, .int .i64 v.wt, .int .i64 v.v.a, .int .i64 v.v.b, .int .i64 v.v.c, .int .i64 v.v.d] 53)).drew.cell? ((⟨wr.heap.size, 0, none⟩ : Addr).add j) = some u) := World.news_of_block (cs := #[.string ⟨⟨v.nm⟩⟩, .int .i64 v.wt, .int .i64 v.v.a, .int .i64 v.v.b, .int .i64 v.v.c, .int .i64 v.v.d]) (t := 53) (fr := (0, 0)) new0
      have HS : Hid ((wr.alloc (.cells #[.string ⟨⟨v.nm⟩⟩, .int .i64 v.wt, .int .i64 v.v.a, .int .i64 v.v.b, .int .i64 v.v.c, .int .i64 v.v.d] 53)).drew.heap.size = wr.heap.size + 1) := by
        refine (?_ : _ = _)
        simp
      have HZ : Hid (w.heap.size ≤ (wr.alloc (.cells #[.string ⟨⟨v.nm⟩⟩, .int .i64 v.wt, .int .i64 v.v.a, .int .i64 v.v.b, .int .i64 v.v.c, .int .i64 v.v.d] 53)).drew.heap.size) := by
        have h9 := HB.out.2.size
        refine (?_ : w.heap.size ≤ _)
        simp
        omega
      have HF : Hid (∀ g cap w4, w4.ownsRow w.heap.size 53 6 (.slice (some ⟨g, 0, none⟩) (k + 1) cap) (k + 1) ((L.take k).flatMap uC ++ uC v) → (wr.alloc (.cells #[.string ⟨⟨v.nm⟩⟩, .int .i64 v.wt, .int .i64 v.v.a, .int .i64 v.v.b, .int .i64 v.v.c, .int .i64 v.v.d] 53)).drew.grownBy w4 (Value.slice p k c').ownBlock → RU w.heap.size w4 (.slice (some ⟨g, 0, none⟩) (k + 1) cap) (L.take (k + 1)) ∧ Below w.heap.size w w4) := fun g cap w4 h1 h2 => ru_add hv HB.out.2 HB.out.1 h1 rfl h2
      clear hv HB hr
      go_wp2_with fail
      go_region_law (refine step_append_lies _ rfl (.tmp 11) (.tmp 28) 31 rfl w.heap.size 53 i0 _ 6 56 Tryz.underlying31 HI.out.1 HI.out.2.1 HI.out.2.2.1 HI.out.2.2.2 rfl (by decide) (.slice p k c') k ((L.take k).flatMap uC) (by simp [Act.eval]) O1.out ⟨wr.heap.size, 0, none⟩ 1 1 (uC v) (by simp [Act.eval]) rfl HN.out (uC_one v) (by decide) (by unfold maxLen; omega) (by omega) HZ.out _ HS.out ?_; intro g cap w4 hown hgrow hat hlt; have HW : Hid (RU w.heap.size w4 (.slice (some ⟨g, 0, none⟩) (k + 1) cap) (L.take (k + 1)) ∧ Below w.heap.size w w4) := HF.out g cap w4 hown hgrow; clear hown hgrow hat hlt)
      all_goals go_wp2_with fail
      all_goals
        refine ⟨⟨k + 1, _, _, rfl, by simp, by omega, HW⟩, ?_⟩
        simp only [intOf]
        omega

/-- whether one goes ahead of the other, by the document -/
def bfT (a b : Tn) : Bool := decide (a.n * b.d < b.n * a.d) || (decide (a.n * b.d = b.n * a.d) && bytesBefore a.nm b.nm)
theorem bfT_tb {a b : Tn} : bfT a b = true ↔ tb a b := by
  unfold bfT tb
  simp
end Go.Proofs.YtcgaekaollhmpaaGreat
