/-
  The laws' plain.
-/
import Derived.Test.YtcfnonfghlgphaaRa1
import Derived.Deep.RegionHeldLaw
import Derived.Deep.AppendLies
namespace Go.Proofs.Ytcfnonfghlgphaa
open Go.RowKit Go.Maps Go.WideMaps Go.Sort

set_option maxHeartbeats 20000000 in
set_option maxRecDepth 100000 in
theorem vplain_any (w : World) (s : Option Addr) (n c : Nat) (L : List Vi) (hl : Hid (L.length = n)) (hn : n ≤ 1000) (hr : Hid (VA w s L)) :
    Calls Try.prog 12 #[.slice s n c] w fun e w' => ∃ p c', e = .returned (.slice p n c') ∧ Hid (WR w.heap.size w' (.slice p n c') L ∧ Below w.heap.size w w') := by
  obtain ⟨i0, hi, hz0, hz1, hz2⟩ := info_parts info65
  have HI : Hid (Try.prog.info? 65 = some i0 ∧ i0.zero = some (.agg #[.int .i64 0, .int .i64 0, .int .i64 0, .slice none 0 0, .slice none 0 0]) ∧ i0.size = 5 ∧ i0.bytes = 72) := ⟨hi, hz0, hz1, hz2⟩
  clear hi hz0 hz1 hz2
  go_enter Try.func12, Try.ntmps12
  go_wp2_with fail
  go_loopw [3, 4] (fun v x wr => ∃ (k : Nat) (p : Option Addr) (c' : Nat), v = .slice p k c' ∧ x = .int .i64 k ∧ k ≤ n ∧ Hid (WR w.heap.size wr (.slice p k c') (L.take k) ∧ Below w.heap.size w wr)) (fun _ x _ => n - (intOf x).toNat)
  case atStart => exact ⟨0, none, 0, rfl, rfl, Nat.zero_le _, GRow.nil _ _ _ _ _, Below.refl _ _⟩
  case round =>
    obtain ⟨k, p, c', rfl, rfl, hk, HB⟩ := hrel
    by_cases h0 : k = n
    · subst h0
      go_wp2_with fail
      go_ret
      refine ⟨p, c', rfl, ?_, HB.out.2⟩
      have := HB.out.1
      rwa [List.take_of_length_le (by have := hl.out; omega)] at this
    · have hlt' : (k : Int) < (n : Int) := by omega
      obtain ⟨v, hv⟩ : ∃ v, L[k]? = some v := ⟨L[k]'(by have := hl.out; omega), List.getElem?_eq_getElem _⟩
      obtain ⟨q, o, rfl, c0, c1, c2, c3, c4⟩ := VA.at (hr.out.below HB.out.2) hv
      have O1 : Hid ((wr.alloc (.cells #[.int .i64 v.j, .int .i64 v.p, .int .i64 v.s, .slice v.qT v.nT v.cT, .slice v.qN v.nN v.cN] 65)).drew.ownsRow w.heap.size 65 5 (.slice p k c') k ((L.take k).flatMap viC)) := by
        have := HB.out.1.below (((Below.refl _ wr).alloc (Nat.le_refl _) (.cells #[.int .i64 v.j, .int .i64 v.p, .int .i64 v.s, .slice v.qT v.nT v.cT, .slice v.qN v.nN v.cN] 65)).drew)
        unfold GRow at this
        rwa [List.length_take, hl.out, Nat.min_eq_left hk] at this
      have HN : Hid (∀ j u, (viC v)[j]? = some u → (wr.alloc (.cells #[.int .i64 v.j, .int .i64 v.p, .int .i64 v.s, .slice v.qT v.nT v.cT, .slice v.qN v.nN v.cN] 65)).drew.cell? ((⟨wr.heap.size, 0, none⟩ : Addr).add j) = some u) := World.news_of_block (cs := #[.int .i64 v.j, .int .i64 v.p, .int .i64 v.s, .slice v.qT v.nT v.cT, .slice v.qN v.nN v.cN]) (t := 65) (fr := (0, 0)) new0
      have HS : Hid ((wr.alloc (.cells #[.int .i64 v.j, .int .i64 v.p, .int .i64 v.s, .slice v.qT v.nT v.cT, .slice v.qN v.nN v.cN] 65)).drew.heap.size = wr.heap.size + 1) := by
        refine (?_ : _ = _)
        simp
      have HZ : Hid (w.heap.size ≤ (wr.alloc (.cells #[.int .i64 v.j, .int .i64 v.p, .int .i64 v.s, .slice v.qT v.nT v.cT, .slice v.qN v.nN v.cN] 65)).drew.heap.size) := by
        have h9 := HB.out.2.size
        refine (?_ : w.heap.size ≤ _)
        simp
        omega
      have HF : Hid (∀ g cap w4, w4.ownsRow w.heap.size 65 5 (.slice (some ⟨g, 0, none⟩) (k + 1) cap) (k + 1) ((L.take k).flatMap viC ++ viC v) → (wr.alloc (.cells #[.int .i64 v.j, .int .i64 v.p, .int .i64 v.s, .slice v.qT v.nT v.cT, .slice v.qN v.nN v.cN] 65)).drew.grownBy w4 (Value.slice p k c').ownBlock → WR w.heap.size w4 (.slice (some ⟨g, 0, none⟩) (k + 1) cap) (L.take (k + 1)) ∧ Below w.heap.size w w4) := fun g cap w4 h1 h2 => wr_add hv HB.out.2 HB.out.1 h1 rfl h2
      have HKW : Hid (∀ W, Below w.heap.size w W → W.cell? ⟨q, o + k * 5, none⟩ = some (.int .i64 v.j) ∧ W.cell? ⟨q, o + k * 5 + 1, none⟩ = some (.int .i64 v.p) ∧ W.cell? ⟨q, o + k * 5 + 2, none⟩ = some (.int .i64 v.s) ∧ W.cell? ⟨q, o + k * 5 + 3, none⟩ = some (.slice v.qT v.nT v.cT) ∧ W.cell? ⟨q, o + k * 5 + 4, none⟩ = some (.slice v.qN v.nN v.cN)) := fun W b => by
        obtain ⟨g', o', e, q0, q1, q2, q3, q4⟩ := VA.at (hr.out.below b) hv
        cases e
        exact ⟨q0, q1, q2, q3, q4⟩
      clear hv HB hr
      go_wp2_with fail
      go_region_held_law (fun w' => w'.cell? ⟨q, o + k * 5, none⟩ = some (.int .i64 v.j) ∧ w'.cell? ⟨q, o + k * 5 + 1, none⟩ = some (.int .i64 v.p) ∧ w'.cell? ⟨q, o + k * 5 + 2, none⟩ = some (.int .i64 v.s) ∧ w'.cell? ⟨q, o + k * 5 + 3, none⟩ = some (.slice v.qT v.nT v.cT) ∧ w'.cell? ⟨q, o + k * 5 + 4, none⟩ = some (.slice v.qN v.nN v.cN)) (first | go_keep | exact HKW.out _ (Hid.out (by assumption)))
        ((refine step_append_lies _ (by rfl) (.tmp 11) (.tmp 38) 29 (by rfl) w.heap.size 65 i0 _ 5 72 Try.underlying29 HI.out.1 HI.out.2.1 HI.out.2.2.1 HI.out.2.2.2 rfl (by decide) (.slice p k c') k ((L.take k).flatMap viC) (by rfl) O1.out ⟨wr.heap.size, 0, none⟩ 1 1 (viC v) (by rfl) rfl HN.out (viC_one v) (by decide) (by unfold maxLen; omega) (by omega) HZ.out _ HS.out ?_; intro g cap w4 hown hgrow hat hlt; have HW : Hid (WR w.heap.size w4 (.slice (some ⟨g, 0, none⟩) (k + 1) cap) (L.take (k + 1)) ∧ Below w.heap.size w w4) := HF.out g cap w4 hown hgrow; have HB4 : Hid (Below w.heap.size w w4) := HW.out.2; clear hown hgrow hat hlt))
      all_goals go_wp2_with fail
      all_goals
        refine ⟨⟨k + 1, _, _, rfl, by simp, by omega, HW⟩, ?_⟩
        simp only [intOf]
        omega
end Go.Proofs.Ytcfnonfghlgphaa
