/-
  The laws' plain and slots. The document's slots at a tick, and its errors. The document's errors, and its Start. The document's Start. The document's Admit. The law FillAdmits.
-/
import Derived.Test.YtjgibngnjlciaaaGreatFa
import Derived.Deep.RegionHeldLaw
import Derived.Deep.RegionLaw
import Derived.Deep.AppendLies
import Derived.Test.YtjgibngnjlciaaaGreatFb
import Derived.Test.YtjgibngnjlciaaaGreatGi
import Derived.Deep.RegionHeld3
import Derived.Test.YtjgibngnjlciaaaGreatFk
import Derived.Test.YtjgibngnjlciaaaGreatHj
namespace Go.Proofs.YtjgibngnjlciaaaGreat
open Go.RowKit Go.Maps Go.WideMaps Go.Sort

theorem info62r : (Tryz.prog.info? 54).map (fun i => (i.zero, i.size, i.bytes)) = some (some (.agg #[.int .i64 0, .int .i64 0, .slice none 0 0, .slice none 0 0]), 4, 64) := by kernel_rfl
/-- a row of runs as the document has them -/
abbrev WR (b : Nat) (w : World) (v : Value) (L : List Vi) : Prop := GRow 54 4 viC b w v L
theorem wr_add {w wr w4 : World} {p : Option Addr} {k c g cap : Nat} {L : List Vi} {e : Vi} {xs : List Value} {o : Obj} (hL : L[k]? = some e) (hB : Below w.heap.size w wr) (hO : WR w.heap.size wr (.slice p k c) (L.take k)) (ho : w4.ownsRow w.heap.size 54 4 (.slice (some ⟨g, 0, none⟩) (k + 1) cap) (k + 1) (xs ++ viC e)) (hx : xs = (L.take k).flatMap viC) (hg : ((wr.alloc o).drew).grownBy w4 (Value.slice p k c).ownBlock) : WR w.heap.size w4 (.slice (some ⟨g, 0, none⟩) (k + 1) cap) (L.take (k + 1)) ∧ Below w.heap.size w w4 := by
  have hk := (List.getElem?_eq_some_iff.1 hL).1
  have hsz : w.heap.size ≤ ((wr.alloc o).drew).heap.size := by have := hB.size; simp; omega
  refine ⟨?_, ((hB.alloc hB.size _).drew).trans (below_grown hg hsz fun g e => hO.ge e)⟩
  unfold WR GRow
  rw [List.take_add_one, hL, List.length_append, List.length_take, Nat.min_eq_left (by omega), List.flatMap_append]
  rw [hx] at ho
  simpa using ho
set_option maxHeartbeats 2000000 in
set_option maxRecDepth 100000 in
theorem plain_any (w : World) (s : Option Addr) (n c : Nat) (L : List Sl) (hl : Hid (L.length = n)) (hn : n ≤ 1000) (hr : Hid (SA w s L)) :
    Calls Tryz.prog 9 #[.slice s n c] w fun e w' => ∃ p c', e = .returned (.slice p n c') ∧ Hid (RR w.heap.size w' (.slice p n c') L ∧ Below w.heap.size w w') := by
  obtain ⟨i0, hi, hz0, hz1, hz2⟩ := info_parts info62
  have HI : Hid (Tryz.prog.info? 55 = some i0 ∧ i0.zero = some (.agg #[.string ⟨#[]⟩, .int .i64 0, .int .i64 0, .int .i64 0, .int .i64 0]) ∧ i0.size = 5 ∧ i0.bytes = 48) := ⟨hi, hz0, hz1, hz2⟩
  clear hi hz0 hz1 hz2
  go_enter Tryz.func9, Tryz.ntmps9
  go_wp2_with fail
  go_loopw [3, 4] (fun v x wr => ∃ (k : Nat) (p : Option Addr) (c' : Nat), v = .slice p k c' ∧ x = .int .i64 k ∧ k ≤ n ∧ Hid (RR w.heap.size wr (.slice p k c') (L.take k) ∧ Below w.heap.size w wr)) (fun _ x _ => n - (intOf x).toNat)
  case atStart => exact ⟨0, none, 0, rfl, rfl, Nat.zero_le _, GRow.nil _ _ _ _ _, Below.refl _ _⟩
  case round =>
    obtain ⟨k, p, c', rfl, rfl, hk, HB⟩ := hrel
    by_cases h0 : k = n
    · subst h0
      go_wp2_with fail
      go_ret
      refine ⟨p, c', rfl, ?_, HB.out.2⟩
      have := HB.out.1
      rwa [List.take_of_length_le (by have := hl.out; omega)] at this
    · have hlt' : (k : Int) < (n : Int) := by omega
      obtain ⟨v, hv⟩ : ∃ v, L[k]? = some v := ⟨L[k]'(by have := hl.out; omega), List.getElem?_eq_getElem _⟩
      obtain ⟨q, o, rfl, c0, c1, c2, c3, c4⟩ := SA.at (hr.out.below HB.out.2) hv
      have c2 : wr.cell? ⟨q, o + k * 5 + 1 + 1, none⟩ = some (.int .i64 v.v.b) := c2
      have c3 : wr.cell? ⟨q, o + k * 5 + 1 + 2, none⟩ = some (.int .i64 v.v.c) := c3
      have c4 : wr.cell? ⟨q, o + k * 5 + 1 + 3, none⟩ = some (.int .i64 v.v.d) := c4
      have O1 : Hid ((wr.alloc (.cells #[.string ⟨⟨v.nm⟩⟩, .int .i64 v.v.a, .int .i64 v.v.b, .int .i64 v.v.c, .int .i64 v.v.d] 55)).drew.ownsRow w.heap.size 55 5 (.slice p k c') k ((L.take k).flatMap slC)) := by
        have := HB.out.1.below (((Below.refl _ wr).alloc (Nat.le_refl _) (.cells #[.string ⟨⟨v.nm⟩⟩, .int .i64 v.v.a, .int .i64 v.v.b, .int .i64 v.v.c, .int .i64 v.v.d] 55)).drew)
        unfold GRow at this
        rwa [List.length_take, hl.out, Nat.min_eq_left hk] at this
      have HN : Hid (∀ j u, (slC v)[j]? = some u → (wr.alloc (.cells #[.string ⟨⟨v.nm⟩⟩, .int .i64 v.v.a, .int .i64 v.v.b, .int .i64 v.v.c, .int .i64 v.v.d] 55)).drew.cell? ((⟨wr.heap.size, 0, none⟩ : Addr).add j) = some u) := World.news_of_block (cs := #[.string ⟨⟨v.nm⟩⟩, .int .i64 v.v.a, .int .i64 v.v.b, .int .i64 v.v.c, .int .i64 v.v.d]) (t := 55) (fr := (0, 0)) new0
      have HS : Hid ((wr.alloc (.cells #[.string ⟨⟨v.nm⟩⟩, .int .i64 v.v.a, .int .i64 v.v.b, .int .i64 v.v.c, .int .i64 v.v.d] 55)).drew.heap.size = wr.heap.size + 1) := by
        refine (?_ : _ = _)
        simp
      have HZ : Hid (w.heap.size ≤ (wr.alloc (.cells #[.string ⟨⟨v.nm⟩⟩, .int .i64 v.v.a, .int .i64 v.v.b, .int .i64 v.v.c, .int .i64 v.v.d] 55)).drew.heap.size) := by
        have h9 := HB.out.2.size
        refine (?_ : w.heap.size ≤ _)
        simp
        omega
      have HF : Hid (∀ g cap w4, w4.ownsRow w.heap.size 55 5 (.slice (some ⟨g, 0, none⟩) (k + 1) cap) (k + 1) ((L.take k).flatMap slC ++ slC v) → (wr.alloc (.cells #[.string ⟨⟨v.nm⟩⟩, .int .i64 v.v.a, .int .i64 v.v.b, .int .i64 v.v.c, .int .i64 v.v.d] 55)).drew.grownBy w4 (Value.slice p k c').ownBlock → RR w.heap.size w4 (.slice (some ⟨g, 0, none⟩) (k + 1) cap) (L.take (k + 1)) ∧ Below w.heap.size w w4) := fun g cap w4 h1 h2 => rr_add hv HB.out.2 HB.out.1 h1 rfl h2
      clear hv HB hr
      go_wp2_with fail
      go_region_law (refine step_append_lies _ rfl (.tmp 11) (.tmp 23) 36 rfl w.heap.size 55 i0 _ 5 48 Tryz.underlying36 HI.out.1 HI.out.2.1 HI.out.2.2.1 HI.out.2.2.2 rfl (by decide) (.slice p k c') k ((L.take k).flatMap slC) (by simp [Act.eval]) O1.out ⟨wr.heap.size, 0, none⟩ 1 1 (slC v) (by simp [Act.eval]) rfl HN.out (slC_one v) (by decide) (by unfold maxLen; omega) (by omega) HZ.out _ HS.out ?_; intro g cap w4 hown hgrow hat hlt; have HW : Hid (RR w.heap.size w4 (.slice (some ⟨g, 0, none⟩) (k + 1) cap) (L.take (k + 1)) ∧ Below w.heap.size w w4) := HF.out g cap w4 hown hgrow; clear hown hgrow hat hlt)
      all_goals go_wp2_with fail
      all_goals
        refine ⟨⟨k + 1, _, _, rfl, by simp, by omega, HW⟩, ?_⟩
        simp only [intOf]
        omega
set_option maxHeartbeats 20000000 in
set_option maxRecDepth 100000 in
theorem vplain_any (w : World) (s : Option Addr) (n c : Nat) (L : List Vi) (hl : Hid (L.length = n)) (hn : n ≤ 1000) (hr : Hid (VA w s L)) :
    Calls Tryz.prog 8 #[.slice s n c] w fun e w' => ∃ p c', e = .returned (.slice p n c') ∧ Hid (WR w.heap.size w' (.slice p n c') L ∧ Below w.heap.size w w') := by
  obtain ⟨i0, hi, hz0, hz1, hz2⟩ := info_parts info62r
  have HI : Hid (Tryz.prog.info? 54 = some i0 ∧ i0.zero = some (.agg #[.int .i64 0, .int .i64 0, .slice none 0 0, .slice none 0 0]) ∧ i0.size = 4 ∧ i0.bytes = 64) := ⟨hi, hz0, hz1, hz2⟩
  clear hi hz0 hz1 hz2
  go_enter Tryz.func8, Tryz.ntmps8
  go_wp2_with fail
  go_loopw [3, 4] (fun v x wr => ∃ (k : Nat) (p : Option Addr) (c' : Nat), v = .slice p k c' ∧ x = .int .i64 k ∧ k ≤ n ∧ Hid (WR w.heap.size wr (.slice p k c') (L.take k) ∧ Below w.heap.size w wr)) (fun _ x _ => n - (intOf x).toNat)
  case atStart => exact ⟨0, none, 0, rfl, rfl, Nat.zero_le _, GRow.nil _ _ _ _ _, Below.refl _ _⟩
  case round =>
    obtain ⟨k, p, c', rfl, rfl, hk, HB⟩ := hrel
    by_cases h0 : k = n
    · subst h0
      go_wp2_with fail
      go_ret
      refine ⟨p, c', rfl, ?_, HB.out.2⟩
      have := HB.out.1
      rwa [List.take_of_length_le (by have := hl.out; omega)] at this
    · have hlt' : (k : Int) < (n : Int) := by omega
      obtain ⟨v, hv⟩ : ∃ v, L[k]? = some v := ⟨L[k]'(by have := hl.out; omega), List.getElem?_eq_getElem _⟩
      obtain ⟨q, o, rfl, c0, c1, c2, c3⟩ := VA.at (hr.out.below HB.out.2) hv
      have O1 : Hid ((wr.alloc (.cells #[.int .i64 v.j, .int .i64 v.p, .slice v.qT v.nT v.cT, .slice v.qN v.nN v.cN] 54)).drew.ownsRow w.heap.size 54 4 (.slice p k c') k ((L.take k).flatMap viC)) := by
        have := HB.out.1.below (((Below.refl _ wr).alloc (Nat.le_refl _) (.cells #[.int .i64 v.j, .int .i64 v.p, .slice v.qT v.nT v.cT, .slice v.qN v.nN v.cN] 54)).drew)
        unfold GRow at this
        rwa [List.length_take, hl.out, Nat.min_eq_left hk] at this
      have HN : Hid (∀ j u, (viC v)[j]? = some u → (wr.alloc (.cells #[.int .i64 v.j, .int .i64 v.p, .slice v.qT v.nT v.cT, .slice v.qN v.nN v.cN] 54)).drew.cell? ((⟨wr.heap.size, 0, none⟩ : Addr).add j) = some u) := World.news_of_block (cs := #[.int .i64 v.j, .int .i64 v.p, .slice v.qT v.nT v.cT, .slice v.qN v.nN v.cN]) (t := 54) (fr := (0, 0)) new0
      have HS : Hid ((wr.alloc (.cells #[.int .i64 v.j, .int .i64 v.p, .slice v.qT v.nT v.cT, .slice v.qN v.nN v.cN] 54)).drew.heap.size = wr.heap.size + 1) := by
        refine (?_ : _ = _)
        simp
      have HZ : Hid (w.heap.size ≤ (wr.alloc (.cells #[.int .i64 v.j, .int .i64 v.p, .slice v.qT v.nT v.cT, .slice v.qN v.nN v.cN] 54)).drew.heap.size) := by
        have h9 := HB.out.2.size
        refine (?_ : w.heap.size ≤ _)
        simp
        omega
      have HF : Hid (∀ g cap w4, w4.ownsRow w.heap.size 54 4 (.slice (some ⟨g, 0, none⟩) (k + 1) cap) (k + 1) ((L.take k).flatMap viC ++ viC v) → (wr.alloc (.cells #[.int .i64 v.j, .int .i64 v.p, .slice v.qT v.nT v.cT, .slice v.qN v.nN v.cN] 54)).drew.grownBy w4 (Value.slice p k c').ownBlock → WR w.heap.size w4 (.slice (some ⟨g, 0, none⟩) (k + 1) cap) (L.take (k + 1)) ∧ Below w.heap.size w w4) := fun g cap w4 h1 h2 => wr_add hv HB.out.2 HB.out.1 h1 rfl h2
      have HKW : Hid (∀ W, Below w.heap.size w W → W.cell? ⟨q, o + k * 4, none⟩ = some (.int .i64 v.j) ∧ W.cell? ⟨q, o + k * 4 + 1, none⟩ = some (.int .i64 v.p) ∧ W.cell? ⟨q, o + k * 4 + 2, none⟩ = some (.slice v.qT v.nT v.cT) ∧ W.cell? ⟨q, o + k * 4 + 3, none⟩ = some (.slice v.qN v.nN v.cN)) := fun W b => by
        obtain ⟨g', o', e, q0, q1, q2, q3⟩ := VA.at (hr.out.below b) hv
        cases e
        exact ⟨q0, q1, q2, q3⟩
      clear hv HB hr
      go_wp2_with fail
      go_region_held_law (fun w' => w'.cell? ⟨q, o + k * 4, none⟩ = some (.int .i64 v.j) ∧ w'.cell? ⟨q, o + k * 4 + 1, none⟩ = some (.int .i64 v.p) ∧ w'.cell? ⟨q, o + k * 4 + 2, none⟩ = some (.slice v.qT v.nT v.cT) ∧ w'.cell? ⟨q, o + k * 4 + 3, none⟩ = some (.slice v.qN v.nN v.cN)) (first | go_keep | exact HKW.out _ (Hid.out (by assumption)))
        ((refine step_append_lies _ (by rfl) (.tmp 11) (.tmp 33) 34 (by rfl) w.heap.size 54 i0 _ 4 64 Tryz.underlying34 HI.out.1 HI.out.2.1 HI.out.2.2.1 HI.out.2.2.2 rfl (by decide) (.slice p k c') k ((L.take k).flatMap viC) (by rfl) O1.out ⟨wr.heap.size, 0, none⟩ 1 1 (viC v) (by rfl) rfl HN.out (viC_one v) (by decide) (by unfold maxLen; omega) (by omega) HZ.out _ HS.out ?_; intro g cap w4 hown hgrow hat hlt; have HW : Hid (WR w.heap.size w4 (.slice (some ⟨g, 0, none⟩) (k + 1) cap) (L.take (k + 1)) ∧ Below w.heap.size w w4) := HF.out g cap w4 hown hgrow; have HB4 : Hid (Below w.heap.size w w4) := HW.out.2; clear hown hgrow hat hlt))
      all_goals go_wp2_with fail
      all_goals
        refine ⟨⟨k + 1, _, _, rfl, by simp, by omega, HW⟩, ?_⟩
        simp only [intOf]
        omega
end Go.Proofs.YtjgibngnjlciaaaGreat

namespace Go.Proofs.YtjgibngnjlciaaaGreat
open Go.RowKit Go.Maps Go.WideMaps Go.Sort

theorem drop_at_cons' {α : Type} {l : List α} {k : Nat} {x : α} (h : l[k]? = some x) : l.drop k = x :: l.drop (k + 1) := by
  obtain ⟨h1, rfl⟩ := List.getElem?_eq_some_iff.1 h
  exact List.drop_eq_getElem_cons h1
theorem part_perm {R : List Vi} (p : Vi → Bool) {k : Nat} {v : Vi} (hv : R[k]? = some v) : (((R.take k).filter p ++ [v]) ++ ((R.take k).filter (fun x => !p x) ++ R.drop (k + 1))).Perm R := by
  have h1 : R = R.take k ++ v :: R.drop (k + 1) := by rw [← drop_at_cons' hv, List.take_append_drop]
  have h2 := List.filter_append_perm p (R.take k)
  conv => rhs; rw [h1]
  refine List.Perm.trans ?_ (h2.append_right _)
  rw [List.append_assoc, List.append_assoc]
  refine List.Perm.append_left _ ?_
  rw [List.singleton_append]
  exact (List.perm_middle).symm
theorem part_give {R : List Vi} {S : List Sl} (hG : Gv R S) (hS : allS S = true) (p : Vi → Bool) {k : Nat} {v : Vi} (hv : R[k]? = some v) (hp : p v = true) : movR addR v.T v.N (slA ((R.take k).filter p) S) = (0, slA ((R.take (k + 1)).filter p) S) := by
  have hA : Gv ((R.take k).filter p ++ [v]) S := hG.sub hS (part_perm p hv)
  have hB : Gv ((R.take k).filter p) S := hA.sub hS (List.Perm.refl _)
  have e1 := give_all _ S hS hA
  have e2 := give_all _ S hS hB
  rw [gvG_append, e2, if_pos rfl] at e1
  have e3 : (if (movR addR v.T v.N (slA ((R.take k).filter p) S)).1 = 0 then (0, (movR addR v.T v.N (slA ((R.take k).filter p) S)).2) else ((movR addR v.T v.N (slA ((R.take k).filter p) S)).1, [])) = (0, slA ((R.take k).filter p ++ [v]) S) := e1
  have e4 : (R.take (k + 1)).filter p = (R.take k).filter p ++ [v] := by
    rw [take_next hv, List.filter_append, List.filter_cons_of_pos hp]; rfl
  rw [e4]
  by_cases h0 : (movR addR v.T v.N (slA ((R.take k).filter p) S)).1 = 0
  · rw [if_pos h0] at e3
    have := congrArg Prod.snd e3
    exact Prod.ext h0 this
  · rw [if_neg h0] at e3
    exact absurd (congrArg Prod.fst e3) h0
theorem part_skip {R : List Vi} {S : List Sl} (p : Vi → Bool) {k : Nat} {v : Vi} (hv : R[k]? = some v) (hp : p v = false) : slA ((R.take (k + 1)).filter p) S = slA ((R.take k).filter p) S := by
  rw [take_next hv, List.filter_append, List.filter_cons_of_neg (by rw [hp]; decide), List.filter_nil, List.append_nil]
/-- one gives back, as the document has it -/
theorem rmov_vi (v : Vi) (S : List Sl) (r : Option Addr) (m d : Nat) (w : World) (o : v.ok w) (h : SlS w r m d S) (m1 : m ≤ 1000000) : Calls Tryz.prog 16 #[.slice v.qT v.nT v.cT, .slice v.qN v.nN v.cN, .slice r m d, .bool true] w (GvO w v S) := by
  refine (rmovA v.T v.N S v.qT v.qN r v.nT v.cT v.nN v.cN m d w (h.arg o) o.n o.ln o.mt m1 o.mn).mono ?_
  rintro e w' ⟨p, k, c, rfl, hk, h1⟩
  refine ⟨p, k, c, rfl, h1.out.2, fun h0 => ⟨⟨h1.out.1.ga slC_len, short_nm h.h (movR_nm h0), fun e => by subst e; exact h1.out.1.nilc, hk⟩, fun g e => ?_⟩⟩
  obtain ⟨a, c', q⟩ := h1.out.1.shape
  rcases h1.out.1.2 with ⟨e1, _⟩ | ⟨g', cap, cur, e1, hb, _⟩
  · cases e1; cases e
  · cases e1; cases e; exact ⟨hb, h1.out.1.lt rfl⟩
def RAt (w : World) (m : Nat) (L : List Sl) (e : Ending) (w' : World) : Prop := ∃ p c', e = .returned (.slice p m c') ∧ Hid (SlS w' p m c' L ∧ Below w.heap.size w w')
set_option maxHeartbeats 4000000 in
set_option maxRecDepth 100000 in
theorem rat_any (now t : Int) (R : List Vi) (S : List Sl) (q r : Option Addr) (n c m d : Nat) (w : World) (hR : Hid (VA w q R)) (hO : Hid (VOk w R)) (hn : Hid (R.length = n)) (hs : Hid (SlS w r m d S)) (n1 : n ≤ 1000000) (m1 : m ≤ 1000) (hG : Hid (Gv R S)) (hS : Hid (allS S = true)) (ht : now < t) :
    Calls Tryz.prog 31 #[.int .i64 now, .int .i64 t, .slice q n c, .slice r m d] w (RAt w m (stA now R S t)) := by
  have H45 : Hid (Calls Tryz.prog 33 #[.slice r m d] w fun e w' => ∃ p c', e = .returned (.slice p m c') ∧ Hid (RR w.heap.size w' (.slice p m c') S ∧ Below w.heap.size w w')) := copy_any w r m d S hs.out.s hs.out.m hs.out.d (by omega)
  have ht' : decide (now < t) = true := decide_eq_true ht
  go_enter Tryz.func31, Tryz.ntmps31
  go_upto_region 2 with (go_at_call 33; refine H45.out.mono ?_; rintro e w1 ⟨p, c', rfl, h1⟩)
  have H0 : Hid (SlS w1 p m c' S ∧ Below w.heap.size w w1) := ⟨⟨h1.out.1.ga slC_len, hs.out.h, fun e => by subst e; exact h1.out.1.nilc, hs.out.m⟩, h1.out.2⟩
  clear H45 h1
  go_wp2_with fail
  go_loopw [9, 10] (fun x y wr => ∃ (p : Option Addr) (c' k : Nat), x = .slice p m c' ∧ y = .int .i64 k ∧ k ≤ n ∧ Hid (SlS wr p m c' (slA ((R.take k).filter fun u => decide (en now u ≤ t)) S) ∧ Below w.heap.size w wr)) (fun _ y _ => n - (intOf y).toNat)
  case atStart =>
    refine ⟨p, c', 0, rfl, rfl, Nat.zero_le _, ?_, H0.out.2⟩
    rw [List.take_zero, List.filter_nil, slA_nil]
    exact H0.out.1
  case round =>
    clear H0
    obtain ⟨p, c', k, rfl, rfl, hk, HB⟩ := hrel
    by_cases h0 : k = n
    · subst h0
      go_wp2_with fail
      go_ret
      refine ⟨p, c', rfl, ?_, HB.out.2⟩
      have h1 := HB.out.1
      rw [List.take_of_length_le (Nat.le_of_eq hn.out)] at h1
      exact h1
    · have hlt' : (k : Int) < (n : Int) := by omega
      have hd : decide ((k : Int) < (n : Int)) = true := decide_eq_true hlt'
      obtain ⟨u, hu⟩ : ∃ u, R[k]? = some u := ⟨R[k]'(by have := hn.out; omega), List.getElem?_eq_getElem _⟩
      obtain ⟨g, o, hqv, c0, c1, c2, c3⟩ := VA.at (hR.out.below HB.out.2) hu
      subst hqv
      by_cases hup : u.p ≤ t
      · have hup' : decide (u.p ≤ t) = true := decide_eq_true hup
        have HP : Hid (movR addR u.T u.N (slA ((R.take k).filter fun u => decide (en now u ≤ t)) S) = (0, slA ((R.take (k + 1)).filter fun u => decide (en now u ≤ t)) S)) := part_give hG.out hS.out (fun u => decide (en now u ≤ t)) hu (decide_eq_true (by unfold en; omega))
        have HO : Hid (u.ok w) := hO.out u (List.mem_of_getElem? hu)
        have H44 : Hid (∀ w1, Below wr.heap.size wr w1 → Calls Tryz.prog 16 #[.slice u.qT u.nT u.cT, .slice u.qN u.nN u.cN, .slice p m c', .bool true] w1 fun e w' => ∃ p c, e = .returned (.tuple #[.slice p m c, .int .i64 0]) ∧ Hid (SlS w' p m c (slA ((R.take (k + 1)).filter fun u => decide (en now u ≤ t)) S) ∧ Below w.heap.size w w') ∧ (w'.cell? ⟨g, o + k * 4 + 2, none⟩ = some (.slice u.qT u.nT u.cT) ∧ w'.cell? ⟨g, o + k * 4 + 3, none⟩ = some (.slice u.qN u.nN u.cN))) := fun w1 b => by
          have b6 := below_from HB.out.2 b HB.out.2.size
          refine (rmov_vi u _ p m c' w1 (HO.out.below b6) (HB.out.1.below b) (by omega)).mono ?_
          rintro e w' ⟨p, k', c, e1, h4⟩
          rw [HP.out] at e1 h4
          have h5 := h4.out.2 rfl
          have hk' : k' = m := by
            have h6 := h5.1.m
            have h7 := hs.out.m
            rw [slA_length] at h6
            omega
          subst hk'
          exact ⟨p, c, e1, ⟨h5.1, below_from b6 h4.out.1 b6.size⟩, cell_below c2 (below_from b h4.out.1 b.size), cell_below c3 (below_from b h4.out.1 b.size)⟩
        generalize u.p = up at *
        obtain ⟨uqT, huqT⟩ : ∃ x, u.qT = x := ⟨_, rfl⟩
        obtain ⟨unT, hunT⟩ : ∃ x, u.nT = x := ⟨_, rfl⟩
        obtain ⟨ucT, hucT⟩ : ∃ x, u.cT = x := ⟨_, rfl⟩
        obtain ⟨uqN, huqN⟩ : ∃ x, u.qN = x := ⟨_, rfl⟩
        obtain ⟨unN, hunN⟩ : ∃ x, u.nN = x := ⟨_, rfl⟩
        obtain ⟨ucN, hucN⟩ : ∃ x, u.cN = x := ⟨_, rfl⟩
        rw [huqT, hunT, hucT] at H44 c2
        rw [huqN, hunN, hucN] at H44 c3
        clear huqT hunT hucT huqN hunN hucN hu HP HO HB
        go_upto_region 6 with fail
        go_region_held3 (fun W : World => W.cell? ⟨g, o + k * 4 + 2, none⟩ = some (.slice uqT unT ucT) ∧ W.cell? ⟨g, o + k * 4 + 3, none⟩ = some (.slice uqN unN ucN)) (first | (with_reducible assumption) | (with_reducible exact z7) | (exact z7) | go_keep) (first | (go_at_call 16; refine (H44.out _ (by first | exact below_drewN (Below.refl _ _) 1 | exact below_drewN (Below.refl _ _) 0)).mono ?_; rintro e w7 ⟨p7, c7, rfl, h7, z7⟩))
        all_goals
          clear z7
          go_wp2_with fail
          exact ⟨⟨p7, c7, k + 1, rfl, by simp, by omega, h7.out⟩, by simp only [intOf]; omega⟩
      · have hup' : decide (u.p ≤ t) = false := decide_eq_false hup
        have hun : ¬ u.p ≤ now := by omega
        have hun' : decide (u.p ≤ now) = false := decide_eq_false hun
        have HP : Hid (SlS wr p m c' (slA ((R.take (k + 1)).filter fun u => decide (en now u ≤ t)) S) ∧ Below w.heap.size w wr) := by
          refine ⟨?_, HB.out.2⟩
          rw [part_skip (fun u => decide (en now u ≤ t)) hu (decide_eq_false (by unfold en; omega))]
          exact HB.out.1
        generalize u.p = up at *
        clear hu HB c0 c2 c3
        go_wp2_with fail
        exact ⟨⟨p, c', k + 1, rfl, by simp, by omega, HP.out⟩, by simp only [intOf]; omega⟩
/-- Start's errors but for no room -/
def wrongR (now : Int) (T : List V) (R : List Vi) (S : List Sl) : Nat := if wthn now R = false then 2 else if chk T S ≠ 0 then chk T S else (gvG R S).1
theorem wrong_start {now : Int} {T : List V} {R : List Vi} {S : List Sl} : (wrongR now T R S ≠ 0 → startR now T R S = (0, [], wrongR now T R S)) ∧ (wrongR now T R S = 0 → wthn now R = true ∧ chk T S = 0 ∧ (gvG R S).1 = 0 ∧ ((fitR T S).1 = 0 ∨ (fitR T S).1 = 6)) := by
  unfold wrongR
  by_cases hw : wthn now R = false
  · rw [if_pos hw]
    exact ⟨fun _ => startR_range hw, fun h => absurd h (by decide)⟩
  · rw [if_neg hw]
    have hw' : wthn now R = true := by simpa using hw
    by_cases hc : chk T S ≠ 0
    · rw [if_pos hc]
      have e : (fitR T S).1 = chk T S := by unfold fitR; rw [if_neg hc]
      have h6 : chk T S ≠ 6 := by
        unfold chk
        repeat' split
        all_goals exact nofun
      exact ⟨fun _ => by rw [startR_fit hw' (by rw [e]; omega), e], fun h => absurd h hc⟩
    · rw [if_neg hc]
      have hc' : chk T S = 0 := by omega
      exact ⟨fun h => startR_give hw' (fitR_two hc') h, fun h => ⟨hw', hc', h, fitR_two hc'⟩⟩
end Go.Proofs.YtjgibngnjlciaaaGreat

namespace Go.Proofs.YtjgibngnjlciaaaGreat
open Go.RowKit Go.Maps Go.WideMaps Go.Sort

/-- while all give back -/
def WrG (w wr : World) (R : List Vi) (S : List Sl) (p : Option Addr) (m c k : Nat) : Prop := ∃ S', gvG (R.take k) S = (0, S') ∧ SlS wr p m c S' ∧ Below w.heap.size w wr
set_option maxHeartbeats 4000000 in
set_option maxRecDepth 100000 in
theorem rwrong18 (now : Int) (T : List V) (R : List Vi) (S : List Sl) (qT q r : Option Addr) (nT cT n c m d : Nat) (w : World) (hT : Hid (TA w qT T ∧ T.length = nT ∧ nT ≤ 1000000)) (hR : Hid (VA w q R)) (hO : Hid (VOk w R)) (hn : Hid (R.length = n)) (hs : Hid (SlS w r m d S)) (n1 : n ≤ 1000000) (m1 : m ≤ 1000) :
    Calls Tryz.prog 30 #[.int .i64 now, .slice qT nT cT, .slice q n c, .slice r m d] w fun e w' => e = .returned (.int .i64 (wrongR now T R S : Nat)) ∧ Hid (Below w.heap.size w w') := by
  by_cases g1 : now < 0
  · have he : Hid (wrongR now T R S = 2) := by show _ = _; unfold wrongR; rw [if_pos (by unfold wthn; exact decide_eq_false (by omega))]
    go_enter Tryz.func30, Tryz.ntmps30
    go_wp2_with fail
    go_ret
    exact ⟨by rw [he.out]; rfl, Below.refl _ _⟩
  by_cases g2 : 1099511627776 ≤ now
  · have he : Hid (wrongR now T R S = 2) := by show _ = _; unfold wrongR; rw [if_pos (by unfold wthn; exact decide_eq_false (by omega))]
    go_enter Tryz.func30, Tryz.ntmps30
    go_wp2_with fail
    go_ret
    exact ⟨by rw [he.out]; rfl, Below.refl _ _⟩
  by_cases g3 : (100 : Int) < (n : Int)
  · have he : Hid (wrongR now T R S = 2) := by show _ = _; unfold wrongR; rw [if_pos (by unfold wthn; exact decide_eq_false (by have := hn.out; omega))]
    go_enter Tryz.func30, Tryz.ntmps30
    go_wp2_with fail
    go_ret
    exact ⟨by rw [he.out]; rfl, Below.refl _ _⟩
  have hn100 : n ≤ 100 := by omega
  obtain ⟨x, hx⟩ : ∃ x, chk T S = x := ⟨_, rfl⟩
  have H43 : Hid (∀ w1, Below w.heap.size w w1 → Calls Tryz.prog 32 #[.slice qT nT cT, .slice r m d] w1 fun e w' => e = .returned (.int .i64 (x : Nat)) ∧ Hid (Below w1.heap.size w1 w')) := fun w1 b => by
    have := wrong_any T S qT r nT cT m d w1 (hT.out.1.below b) (hs.out.below b).s hT.out.2.1 hs.out.m hT.out.2.2 (by omega)
    rwa [hx] at this
  have HE2 : Hid (R.any evil = true → wrongR now T R S = 2) := fun h => by unfold wrongR; rw [if_pos (by unfold wthn; exact decide_eq_false (by rw [h]; simp))]
  have HEx : Hid (R.any evil = false → x ≠ 0 → wrongR now T R S = x) := fun h h2 => by
    unfold wrongR
    rw [if_neg (by unfold wthn; rw [h, decide_eq_true (by have := hn.out; exact ⟨by omega, by omega, by omega, rfl⟩)]; decide), if_pos (by rw [hx]; exact h2), hx]
  have HEg : Hid (R.any evil = false → x = 0 → wrongR now T R S = (gvG R S).1) := fun h h2 => by
    unfold wrongR
    rw [if_neg (by unfold wthn; rw [h, decide_eq_true (by have := hn.out; exact ⟨by omega, by omega, by omega, rfl⟩)]; decide), if_neg (by rw [hx]; exact fun q => q h2)]
  clear hx
  go_enter Tryz.func30, Tryz.ntmps30
  go_wp2_with fail
  go_loopw [9] (fun y wr => ∃ k : Nat, y = .int .i64 k ∧ k ≤ n ∧ Hid ((R.take k).any evil = false ∧ Below w.heap.size w wr)) (fun y _ => n - (intOf y).toNat)
  case atStart => exact ⟨0, rfl, Nat.zero_le _, rfl, Below.refl _ _⟩
  case round =>
    obtain ⟨k, rfl, hk, HB⟩ := hrel
    by_cases h0 : k = n
    · subst h0
      have HN : Hid (R.any evil = false ∧ Below w.heap.size w wr) := by
        have h1 := HB.out.1
        rw [List.take_of_length_le (Nat.le_of_eq hn.out)] at h1
        exact ⟨h1, HB.out.2⟩
      clear HB hk
      by_cases hx0 : x = 0
      · subst hx0
        have HE : Hid (wrongR now T R S = (gvG R S).1) := HEg.out HN.out.1 rfl
        clear HEx HEg HE2
        go_wp2_with (go_at_call 32; refine (H43.out _ HN.out.2).mono ?_; rintro e w1 ⟨rfl, b1⟩; have B1 : Hid (Below w.heap.size w w1) := below_from HN.out.2 b1.out HN.out.2.size; clear H43 b1)
        go_loopw [11, 12] (fun x y wr => ∃ (p : Option Addr) (c' j : Nat), x = .slice p m c' ∧ y = .int .i64 j ∧ j ≤ k ∧ Hid (WrG w wr R S p m c' j)) (fun _ y _ => k - (intOf y).toNat)
        case atStart => exact ⟨r, d, 0, rfl, rfl, Nat.zero_le _, S, rfl, hs.out.below B1.out, B1.out⟩
        case round =>
          clear B1
          obtain ⟨p, c', j, rfl, rfl, hj, HJ⟩ := hrel
          by_cases hjk : j = k
          · subst hjk
            have HF : Hid (wrongR now T R S = 0 ∧ Below w.heap.size w wr) := by
              obtain ⟨S', h1, h2, h3⟩ := HJ.out
              rw [List.take_of_length_le (Nat.le_of_eq hn.out)] at h1
              exact ⟨by rw [HE.out, h1], h3⟩
            clear HJ hj
            go_wp2_with fail
            go_ret
            exact ⟨by rw [HF.out.1]; rfl, HF.out.2⟩
          · have hlt' : (j : Int) < (k : Int) := by omega
            have hd : decide ((j : Int) < (k : Int)) = true := decide_eq_true hlt'
            obtain ⟨u, hu⟩ : ∃ u, R[j]? = some u := ⟨R[j]'(by have := hn.out; omega), List.getElem?_eq_getElem _⟩
            obtain ⟨S', j1, j2, j3⟩ := HJ.out
            obtain ⟨g, o, hqv, c0, c1, c2, c3⟩ := VA.at (hR.out.below j3) hu
            subst hqv
            have hnx := gvG_next hu j1
            obtain ⟨y, hy⟩ : ∃ y, (movR addR u.T u.N S').1 = y := ⟨_, rfl⟩
            have HO : Hid (u.ok w) := hO.out u (List.mem_of_getElem? hu)
            have H44 : Hid (∀ w1, Below wr.heap.size wr w1 → Calls Tryz.prog 16 #[.slice u.qT u.nT u.cT, .slice u.qN u.nN u.cN, .slice p m c', .bool true] w1 fun e w' => ∃ p k c, e = .returned (.tuple #[.slice p k c, .int .i64 (y : Nat)]) ∧ (y = 0 → k = m) ∧ Hid ((y = 0 → WrG w w' R S p k c (j + 1)) ∧ Below w.heap.size w w') ∧ (w'.cell? ⟨g, o + j * 4 + 2, none⟩ = some (.slice u.qT u.nT u.cT) ∧ w'.cell? ⟨g, o + j * 4 + 3, none⟩ = some (.slice u.qN u.nN u.cN))) := fun w1 b => by
              have b6 := below_from j3 b j3.size
              refine (rmov_vi u S' p m c' w1 (HO.out.below b6) (j2.below b) (by omega)).mono ?_
              rintro e w' ⟨p, k', c, e1, h4⟩
              rw [hy] at e1 h4
              refine ⟨p, k', c, e1, fun h0 => ?_, ⟨fun h0 => ?_, below_from b6 h4.out.1 b6.size⟩, cell_below c2 (below_from b h4.out.1 b.size), cell_below c3 (below_from b h4.out.1 b.size)⟩
              · have h6 := (h4.out.2 h0).1.m
                have h7 := j2.m
                have h8 := movR_length (v := u) (S := S') (hy.trans h0)
                omega
              · rw [if_pos (hy.trans h0)] at hnx
                exact ⟨_, hnx, (h4.out.2 h0).1, below_from b6 h4.out.1 b6.size⟩
            have HY : Hid (y ≠ 0 → (gvG R S).1 = y) := fun h0 => by
              rw [if_neg (by rw [hy]; exact h0)] at hnx
              rw [hy] at hnx
              have := gvG_bad (L := R) (k := j + 1) (S := S) (by rw [hnx]; exact h0)
              rw [hnx] at this
              exact this
            obtain ⟨uqT, huqT⟩ : ∃ x, u.qT = x := ⟨_, rfl⟩
            obtain ⟨unT, hunT⟩ : ∃ x, u.nT = x := ⟨_, rfl⟩
            obtain ⟨ucT, hucT⟩ : ∃ x, u.cT = x := ⟨_, rfl⟩
            obtain ⟨uqN, huqN⟩ : ∃ x, u.qN = x := ⟨_, rfl⟩
            obtain ⟨unN, hunN⟩ : ∃ x, u.nN = x := ⟨_, rfl⟩
            obtain ⟨ucN, hucN⟩ : ∃ x, u.cN = x := ⟨_, rfl⟩
            rw [huqT, hunT, hucT] at H44 c2
            rw [huqN, hunN, hucN] at H44 c3
            clear huqT hunT hucT huqN hunN hucN hu hy hnx j1 j2 j3 HO HJ
            by_cases hy0 : y = 0
            · subst hy0
              go_upto_region 15 with fail
              go_region_held3 (fun W : World => W.cell? ⟨g, o + j * 4 + 2, none⟩ = some (.slice uqT unT ucT) ∧ W.cell? ⟨g, o + j * 4 + 3, none⟩ = some (.slice uqN unN ucN)) (first | (with_reducible assumption) | (with_reducible exact z7) | (exact z7) | go_keep) (first | (go_at_call 16; refine (H44.out _ (by first | exact below_drewN (Below.refl _ _) 1 | exact below_drewN (Below.refl _ _) 0)).mono ?_; rintro e w7 ⟨p7, k7, c7, rfl, hk7, h7, z7⟩; obtain rfl := hk7 rfl))
              all_goals
                clear z7
                go_wp2_with fail
                exact ⟨⟨p7, c7, j + 1, rfl, by simp, by omega, h7.out.1 (by simp)⟩, by simp only [intOf]; omega⟩
            · have y1 : ¬ (y : Int) = 0 := by omega
              have y2 : ((y : Int) == 0) = false := by simpa using y1
              have y3 : ((y : Int) != 0) = true := by simpa using y1
              have HF : Hid (wrongR now T R S = y) := HE.out.trans (HY.out hy0)
              go_upto_region 15 with fail
              go_region_held3 (fun W : World => W.cell? ⟨g, o + j * 4 + 2, none⟩ = some (.slice uqT unT ucT) ∧ W.cell? ⟨g, o + j * 4 + 3, none⟩ = some (.slice uqN unN ucN)) (first | (with_reducible assumption) | (with_reducible exact z7) | (exact z7) | go_keep) (first | (go_at_call 16; refine (H44.out _ (by first | exact below_drewN (Below.refl _ _) 1 | exact below_drewN (Below.refl _ _) 0)).mono ?_; rintro e w7 ⟨p7, k7, c7, rfl, hk7, h7, z7⟩))
              all_goals
                clear z7
                go_wp2_with fail
                go_ret
                exact ⟨by rw [HF.out]; rfl, h7.out.2⟩
      · have HE : Hid (wrongR now T R S = x) := HEx.out HN.out.1 hx0
        have y1 : ¬ (x : Int) = 0 := by omega
        have y2 : ((x : Int) == 0) = false := by simpa using y1
        have y3 : ((x : Int) != 0) = true := by simpa using y1
        go_wp2_with (go_at_call 32; refine (H43.out _ HN.out.2).mono ?_; rintro e w1 ⟨rfl, b1⟩)
        go_ret
        exact ⟨by rw [HE.out]; rfl, below_from HN.out.2 b1.out HN.out.2.size⟩
    · have hlt' : (k : Int) < (n : Int) := by omega
      have hd : decide ((k : Int) < (n : Int)) = true := decide_eq_true hlt'
      obtain ⟨u, hu⟩ : ∃ u, R[k]? = some u := ⟨R[k]'(by have := hn.out; omega), List.getElem?_eq_getElem _⟩
      obtain ⟨g, o, hqv, c0, c1, c2, c3⟩ := VA.at (hR.out.below HB.out.2) hu
      subst hqv
      have HU : Hid (R[k]? = some u) := hu
      have HV : Hid (evil u = decide (u.p < 0 ∨ 1099511627776 < u.p)) := (rfl : _ = _)
      clear hu c0 c2 c3
      obtain ⟨up, hup⟩ : ∃ up, u.p = up := ⟨_, rfl⟩
      rw [hup] at HV c1
      clear hup
      by_cases e1 : up < 0
      · have HE : Hid (wrongR now T R S = 2) := HE2.out (any_bad evil HU.out (by rw [HV.out]; exact decide_eq_true (.inl e1)))
        go_wp2_with fail
        go_ret
        exact ⟨by rw [HE.out]; rfl, HB.out.2⟩
      · by_cases e2 : 1099511627776 < up
        · have HE : Hid (wrongR now T R S = 2) := HE2.out (any_bad evil HU.out (by rw [HV.out]; exact decide_eq_true (.inr e2)))
          go_wp2_with fail
          go_ret
          exact ⟨by rw [HE.out]; rfl, HB.out.2⟩
        · have HE : Hid ((R.take (k + 1)).any evil = false) := none_take evil HU.out HB.out.1 (by rw [HV.out]; exact decide_eq_false (by omega))
          go_wp2_with fail
          exact ⟨⟨k + 1, by simp, by omega, HE.out, HB.out.2⟩, by simp only [intOf]; omega⟩
end Go.Proofs.YtjgibngnjlciaaaGreat

namespace Go.Proofs.YtjgibngnjlciaaaGreat
open Go.RowKit Go.Maps Go.WideMaps Go.Sort

/-- the best so far -/
def BsF (now : Int) (T : List V) (R : List Vi) (S : List Sl) (i : Nat) (best : Int) (N : List (List UInt8)) : Prop :=
  (best = -1 ∧ N = [] ∧ ∀ r ∈ R.take i, ¬ fitT now T R S (en now r)) ∨ (0 ≤ best ∧ (∃ r ∈ R, en now r = best) ∧ fitT now T R S best ∧ (∀ r ∈ R.take i, fitT now T R S (en now r) → best ≤ en now r) ∧ N = (fitR T (stA now R S best)).2)
theorem BsF.start (now : Int) (T : List V) (R : List Vi) (S : List Sl) : BsF now T R S 0 (-1) [] := .inl ⟨rfl, rfl, fun r hr => by simp at hr⟩
section
variable {now : Int} {T : List V} {R : List Vi} {S : List Sl} {i : Nat} {best : Int} {N : List (List UInt8)} {v : Vi}
theorem BsF.no (h : BsF now T R S i best N) (hv : R[i]? = some v) (hf : ¬ fitT now T R S (en now v)) : BsF now T R S (i + 1) best N := by
  have hm : ∀ r ∈ R.take (i + 1), fitT now T R S (en now r) → r ∈ R.take i := fun r hr hfr => by
    rw [take_next hv] at hr
    rcases List.mem_append.1 hr with q | q
    · exact q
    · rw [List.mem_singleton.1 q] at hfr
      exact absurd hfr hf
  rcases h with ⟨a, b, c⟩ | ⟨a, b, c, d, e⟩
  · exact .inl ⟨a, b, fun r hr hfr => c r (hm r hr hfr) hfr⟩
  · exact .inr ⟨a, b, c, fun r hr hfr => d r (hm r hr hfr) hfr, e⟩
theorem BsF.yes (h0 : 0 ≤ now) (h : BsF now T R S i best N) (hv : R[i]? = some v) (hf : fitT now T R S (en now v)) (hb : best < 0 ∨ en now v < best) : BsF now T R S (i + 1) (en now v) (fitR T (stA now R S (en now v))).2 := by
  have hpos := en_gt now v
  refine .inr ⟨by omega, ⟨v, List.mem_of_getElem? hv, rfl⟩, hf, fun r hr hfr => ?_, rfl⟩
  rw [take_next hv] at hr
  rcases List.mem_append.1 hr with q | q
  · rcases h with ⟨a, b, c⟩ | ⟨a, b, c, d, e⟩
    · exact absurd hfr (c r q)
    · have := d r q hfr
      omega
  · rw [List.mem_singleton.1 q]; exact Int.le_refl _
theorem BsF.keep (h : BsF now T R S i best N) (hv : R[i]? = some v) (hb : ¬ (best < 0 ∨ en now v < best)) : BsF now T R S (i + 1) best N := by
  rcases h with ⟨a, b, c⟩ | ⟨a, b, c, d, e⟩
  · omega
  · refine .inr ⟨a, b, c, fun r hr hfr => ?_, e⟩
    rw [take_next hv] at hr
    rcases List.mem_append.1 hr with q | q
    · exact d r q hfr
    · rw [List.mem_singleton.1 q]; omega
theorem BsF.done (h : BsF now T R S R.length best N) (hw : wthn now R = true) (hf : (fitR T S).1 = 0 ∨ (fitR T S).1 = 6) (hg : (gvG R S).1 = 0) (hn : (fitR T S).1 ≠ 0) : startR now T R S = if best < 0 then (0, [], 6) else (best, N, 0) := by
  have hnow : ¬ fitT now T R S now := by unfold fitT; rw [stA_now]; exact hn
  rcases h with ⟨a, b, c⟩ | ⟨a, b, c, d, e⟩
  · rw [if_pos (by omega)]
    refine startR_none hw hf hg (staN_none.2 fun u hu => ?_)
    rcases cand_mem.1 hu with rfl | ⟨r, hr, rfl⟩
    · exact hnow
    · exact c r (by rw [List.take_of_length_le (Nat.le_refl _)]; exact hr)
  · rw [if_neg (by omega)]
    have : staN now T R S = some best := staN_some.2 ⟨cand_mem.2 (.inr b), c, fun u hu hfu => by
      rcases cand_mem.1 hu with rfl | ⟨r, hr, rfl⟩
      · exact absurd hfu hnow
      · exact d r (by rw [List.take_of_length_le (Nat.le_refl _)]; exact hr) hfu⟩
    rw [startR_some hw hf hg this, e]
end
theorem start_now {now : Int} {T : List V} {R : List Vi} {S : List Sl} (hw : wthn now R = true) (hg : (gvG R S).1 = 0) (hn : (fitR T S).1 = 0) : startR now T R S = (now, (fitR T S).2, 0) := by
  have : staN now T R S = some now := staN_some.2 ⟨cand_mem.2 (.inl rfl), by unfold fitT; rw [stA_now]; exact hn, fun u hu _ => cand_le hu⟩
  rw [startR_some hw (.inl hn) hg this, stA_now]
set_option maxHeartbeats 4000000 in
set_option maxRecDepth 100000 in
theorem rstart_any (now : Int) (qT q r : Option Addr) (nT cT n c m d : Nat) (T : List V) (R : List Vi) (S : List Sl) (w : World) (h : StG w qT nT cT q n r m d T R S) : Calls Tryz.prog 14 #[.int .i64 now, .slice qT nT cT, .slice q n c, .slice r m d] w (StP w now T R S) := by
  have HG : Hid (StG w qT nT cT q n r m d T R S) := h
  obtain ⟨x, hx⟩ : ∃ x, wrongR now T R S = x := ⟨_, rfl⟩
  have H23 : Hid (Calls Tryz.prog 30 #[.int .i64 now, .slice qT nT cT, .slice q n c, .slice r m d] w fun e w' => e = .returned (.int .i64 (x : Nat)) ∧ Hid (Below w.heap.size w w')) := by
    have := rwrong18 now T R S qT q r nT cT n c m d w ⟨h.t, h.lt, h.n1⟩ h.v h.o h.lr h.s h.n2 h.n3
    rwa [hx] at this
  clear h
  by_cases hx0 : x = 0
  · subst hx0
    obtain ⟨hw, hc, hg, hf⟩ := wrong_start.2 hx
    obtain ⟨y, hy⟩ : ∃ y, (fitR T S).1 = y := ⟨_, rfl⟩
    obtain ⟨M, hM⟩ : ∃ M, (fitR T S).2 = M := ⟨_, rfl⟩
    have H24 : Hid (∀ w1, Below w.heap.size w w1 → Calls Tryz.prog 15 #[.slice qT nT cT, .slice r m d] w1 fun e w' => ∃ p k c, e = .returned (.tuple #[.slice p k c, .int .i64 (y : Nat)]) ∧ M.length = k ∧ (p = none → c = 0) ∧ Hid (NA w' p M ∧ Below w1.heap.size w1 w')) := fun w1 b => by
      have g := HG.out.below b
      refine (rfit_any T S qT r nT cT m d w1 g.t g.s.s g.s.h g.s.d g.lt g.s.m g.n1 (by have := g.n3; omega)).mono ?_
      rintro e w' ⟨p, k, c, e1, e2, e3, e4⟩
      rw [hy] at e1; rw [hM] at e2 e4
      exact ⟨p, k, c, e1, e2, e3, e4⟩
    have hS := fit_chk hf
    have HB0 : Hid (wthn now R = true ∧ (gvG R S).1 = 0 ∧ ((fitR T S).1 = 0 ∨ (fitR T S).1 = 6) ∧ Gv R S ∧ allS S = true) := ⟨hw, hg, hf, all_give R S hS.2.1 hg, hS.2.1⟩
    obtain ⟨wa, wb, wc, wd⟩ := wthn_true hw
    have hn100 : n ≤ 100 := by have := HG.out.lr; omega
    have HY : Hid ((fitR T S).1 = y ∧ (fitR T S).2 = M) := ⟨hy, hM⟩
    clear hw hc hg hf hx hS wc wd hy hM
    by_cases hy0 : y = 0
    · subst hy0
      have HS : Hid (startR now T R S = (now, M, 0)) := by
        have := start_now HB0.out.1 HB0.out.2.1 HY.out.1
        rw [HY.out.2] at this
        exact this
      go_enter Tryz.func14, Tryz.ntmps14
      go_wp2_with (first
        | (go_at_call 30; refine H23.out.mono ?_; rintro e w1 ⟨rfl, b1⟩; clear H23)
        | (go_at_call 15; refine (H24.out _ b1.out).mono ?_; rintro e w2 ⟨p, k, c2, rfl, h1, h2, h3⟩; clear H24))
      go_ret3
      refine ⟨p, k, c2, by rw [HS.out]; rfl, by rw [HS.out]; exact h1, h2, ?_, below_from b1.out h3.out.2 b1.out.size⟩
      rw [HS.out]
      exact h3.out.1
    · have y1 : ¬ (y : Int) = 0 := by omega
      have y2 : ((y : Int) == 0) = false := by simpa using y1
      go_enter Tryz.func14, Tryz.ntmps14
      go_wp2_with (first
        | (go_at_call 30; refine H23.out.mono ?_; rintro e w1 ⟨rfl, b1⟩; clear H23)
        | (go_at_call 15; refine (H24.out _ b1.out).mono ?_; rintro e w2 ⟨p, k, c2, rfl, h1, h2, h3⟩; clear H24; have B2 : Hid (Below w.heap.size w w2) := below_from b1.out h3.out.2 b1.out.size; clear h1 h2 h3 b1))
      go_loopw [14, 15, 16] (fun x y z wr => ∃ (best : Int) (p : Option Addr) (k c i : Nat), x = .int .i64 best ∧ y = .slice p k c ∧ z = .int .i64 i ∧ i ≤ n ∧ Hid (∃ N : List (List UInt8), BsF now T R S i best N ∧ N.length = k ∧ (p = none → c = 0) ∧ NA wr p N ∧ Below w.heap.size w wr)) (fun _ _ z _ => n - (intOf z).toNat)
      case atStart => exact ⟨-1, none, 0, 0, 0, rfl, rfl, rfl, Nat.zero_le _, [], BsF.start _ _ _ _, rfl, fun _ => rfl, fun i a hi => by simp at hi, B2.out⟩
      case round =>
        clear B2
        obtain ⟨best, p, k, c3, i, rfl, rfl, rfl, hi, HB⟩ := hrel
        by_cases hin : i = n
        · subst hin
          obtain ⟨N, n1, n2, n3, n4, n5⟩ := HB.out
          have hd := BsF.done (by rw [HG.out.lr]; exact n1) HB0.out.1 HB0.out.2.2.1 HB0.out.2.1 (by rw [HY.out.1]; exact hy0)
          by_cases hb : best < 0
          · rw [if_pos hb] at hd
            have HS : Hid (startR now T R S = (0, [], 6) ∧ Below w.heap.size w wr) := ⟨hd, n5⟩
            clear hd n1 n2 n3 n4 n5 HB hi
            go_wp2_with fail
            go_ret3
            exact st_no HS.out.1 HS.out.2
          · rw [if_neg hb] at hd
            have HS : Hid (startR now T R S = (best, N, 0) ∧ N.length = k ∧ (p = none → c3 = 0) ∧ NA wr p N ∧ Below w.heap.size w wr) := ⟨hd, n2, n3, n4, n5⟩
            clear hd n1 n2 n3 n4 n5 HB hi
            go_wp2_with fail
            go_ret3
            obtain ⟨s1, s2, s3, s4, s5⟩ := HS.out
            exact ⟨p, k, c3, by rw [s1]; rfl, by rw [s1]; exact s2, s3, by rw [s1]; exact s4, s5⟩
        · have hlt' : (i : Int) < (n : Int) := by omega
          have hd : decide ((i : Int) < (n : Int)) = true := decide_eq_true hlt'
          obtain ⟨u, hu⟩ : ∃ u, R[i]? = some u := ⟨R[i]'(by have := HG.out.lr; omega), List.getElem?_eq_getElem _⟩
          have hbw : Below w.heap.size w wr := by obtain ⟨N, _, _, _, _, n5⟩ := HB.out; exact n5
          obtain ⟨g, o, hqv, c0, c1, c2', c4⟩ := VA.at (HG.out.v.below hbw) hu
          subst hqv
          obtain ⟨E, hE⟩ : ∃ E, max u.p (now + 1) = E := ⟨_, rfl⟩
          have hEv : en now u = E := hE
          have HE : Hid (en now u = E ∧ R[i]? = some u ∧ now < E) := ⟨hEv, hu, by rw [← hEv]; exact en_gt now u⟩
          obtain ⟨f, hff⟩ : ∃ f, (fitR T (stA now R S E)).1 = f := ⟨_, rfl⟩
          obtain ⟨M2, hM2⟩ : ∃ M, (fitR T (stA now R S E)).2 = M := ⟨_, rfl⟩
          have H25 : Hid (Calls Tryz.prog 31 #[.int .i64 now, .int .i64 E, .slice (some ⟨g, o, none⟩) n c, .slice r m d] wr (RAt wr m (stA now R S E))) := rat_any now E R S (some ⟨g, o, none⟩) r n c m d wr (HG.out.v.below hbw) (HG.out.o.below hbw) HG.out.lr (HG.out.s.below hbw) HG.out.n2 HG.out.n3 HB0.out.2.2.2.1 HB0.out.2.2.2.2 HE.out.2.2
          have H24' : Hid (∀ w1 p c', Below w.heap.size w w1 → SlS w1 p m c' (stA now R S E) → Calls Tryz.prog 15 #[.slice qT nT cT, .slice p m c'] w1 fun e w' => ∃ p k c, e = .returned (.tuple #[.slice p k c, .int .i64 (f : Nat)]) ∧ M2.length = k ∧ (p = none → c = 0) ∧ Hid (NA w' p M2 ∧ Below w1.heap.size w1 w')) := fun w1 p c' b hs => by
            have g := HG.out.below b
            refine (rfit_any T (stA now R S E) qT p nT cT m c' w1 g.t hs.s hs.h hs.d g.lt hs.m g.n1 (by have := g.n3; omega)).mono ?_
            rintro e w' ⟨p, k, c, e1, e2, e3, e4⟩
            rw [hff] at e1; rw [hM2] at e2 e4
            exact ⟨p, k, c, e1, e2, e3, e4⟩
          have HF : Hid ((fitR T (stA now R S E)).1 = f ∧ (fitR T (stA now R S E)).2 = M2) := ⟨hff, hM2⟩
          have HW : Hid (Below w.heap.size w wr) := hbw
          obtain ⟨up, hup⟩ : ∃ up, u.p = up := ⟨_, rfl⟩
          rw [hup] at hE c1
          clear hu hEv hff hM2 hbw hup c0 c2' c4
          by_cases hf0 : f = 0
          · subst hf0
            by_cases hb : best < 0
            · have HN : Hid (BsF now T R S (i + 1) E M2) := by
                obtain ⟨N, n1, _⟩ := HB.out
                have := BsF.yes (by omega) n1 HE.out.2.1 (by unfold fitT; rw [HE.out.1]; exact HF.out.1) (.inl hb)
                rw [HE.out.1, HF.out.2] at this
                exact this
              clear HB
              go_wp2_with (first
                | (go_at_call 31; refine H25.out.mono ?_; rintro e w3 ⟨p3, c3', rfl, h3⟩; clear H25)
                | (go_at_call 15; refine (H24'.out _ _ _ (below_from HW.out h3.out.2 HW.out.size) h3.out.1).mono ?_; rintro e w4 ⟨p4, k4, c4, rfl, h4, h5, h6⟩; clear H24'))
              exact ⟨⟨E, p4, k4, c4, i + 1, rfl, rfl, by simp, by omega, M2, HN.out, h4, h5, h6.out.1, below_from (below_from HW.out h3.out.2 HW.out.size) h6.out.2 (Nat.le_trans HW.out.size h3.out.2.size)⟩, by simp only [intOf]; omega⟩
            · by_cases hEb : E < best
              · have HN : Hid (BsF now T R S (i + 1) E M2) := by
                  obtain ⟨N, n1, _⟩ := HB.out
                  have := BsF.yes (by omega) n1 HE.out.2.1 (by unfold fitT; rw [HE.out.1]; exact HF.out.1) (.inr (by rw [HE.out.1]; exact hEb))
                  rw [HE.out.1, HF.out.2] at this
                  exact this
                clear HB
                go_wp2_with (first
                  | (go_at_call 31; refine H25.out.mono ?_; rintro e w3 ⟨p3, c3', rfl, h3⟩; clear H25)
                  | (go_at_call 15; refine (H24'.out _ _ _ (below_from HW.out h3.out.2 HW.out.size) h3.out.1).mono ?_; rintro e w4 ⟨p4, k4, c4, rfl, h4, h5, h6⟩; clear H24'))
                exact ⟨⟨E, p4, k4, c4, i + 1, rfl, rfl, by simp, by omega, M2, HN.out, h4, h5, h6.out.1, below_from (below_from HW.out h3.out.2 HW.out.size) h6.out.2 (Nat.le_trans HW.out.size h3.out.2.size)⟩, by simp only [intOf]; omega⟩
              · have HN : Hid (∀ N, BsF now T R S i best N → BsF now T R S (i + 1) best N) := fun N n1 => n1.keep HE.out.2.1 (by rw [HE.out.1]; omega)
                go_wp2_with (first
                  | (go_at_call 31; refine H25.out.mono ?_; rintro e w3 ⟨p3, c3', rfl, h3⟩; clear H25)
                  | (go_at_call 15; refine (H24'.out _ _ _ (below_from HW.out h3.out.2 HW.out.size) h3.out.1).mono ?_; rintro e w4 ⟨p4, k4, c4, rfl, h4, h5, h6⟩; clear H24'))
                refine ⟨⟨best, p, k, c3, i + 1, rfl, rfl, by simp, by omega, ?_⟩, by simp only [intOf]; omega⟩
                obtain ⟨N, n1, n2, n3, n4, n5⟩ := HB.out
                have b7 := below_from h3.out.2 h6.out.2 h3.out.2.size
                exact ⟨N, HN.out N n1, n2, n3, n4.below b7, below_from n5 b7 n5.size⟩
          · have f1 : ¬ (f : Int) = 0 := by omega
            have f2 : ((f : Int) == 0) = false := by simpa using f1
            have HN : Hid (∀ N, BsF now T R S i best N → BsF now T R S (i + 1) best N) := fun N n1 => n1.no HE.out.2.1 (by unfold fitT; rw [HE.out.1, HF.out.1]; exact hf0)
            go_wp2_with (first
              | (go_at_call 31; refine H25.out.mono ?_; rintro e w3 ⟨p3, c3', rfl, h3⟩; clear H25)
              | (go_at_call 15; refine (H24'.out _ _ _ (below_from HW.out h3.out.2 HW.out.size) h3.out.1).mono ?_; rintro e w4 ⟨p4, k4, c4, rfl, h4, h5, h6⟩; clear H24'))
            refine ⟨⟨best, p, k, c3, i + 1, rfl, rfl, by simp, by omega, ?_⟩, by simp only [intOf]; omega⟩
            obtain ⟨N, n1, n2, n3, n4, n5⟩ := HB.out
            have b7 := below_from h3.out.2 h6.out.2 h3.out.2.size
            exact ⟨N, HN.out N n1, n2, n3, n4.below b7, below_from n5 b7 n5.size⟩
  · have y1 : ¬ (x : Int) = 0 := by omega
    have y2 : ((x : Int) == 0) = false := by simpa using y1
    have y3 : ((x : Int) != 0) = true := by simpa using y1
    have HS : Hid (startR now T R S = (0, [], x)) := by have := wrong_start.1 (by rw [hx]; exact hx0); rw [hx] at this; exact this
    go_enter Tryz.func14, Tryz.ntmps14
    go_wp2_with (go_at_call 30; refine H23.out.mono ?_; rintro e w1 ⟨rfl, b1⟩)
    go_ret3
    exact st_no HS.out b1.out
end Go.Proofs.YtjgibngnjlciaaaGreat

namespace Go.Proofs.YtjgibngnjlciaaaGreat
open Go.RowKit Go.Maps

/-- the document's slots without what a gang takes -/
theorem rafter_sl {w : World} {v : Vi} {S : List Sl} {r : Option Addr} {m d : Nat} (o : v.ok w) (h : SlS w r m d S) (h0 : (movR subR v.T v.N S).1 = 0) (m1 : m ≤ 1000000) : Calls Tryz.prog 16 #[.slice v.qT v.nT v.cT, .slice v.qN v.nN v.cN, .slice r m d, .bool false] w fun e w' => ∃ p c, e = .returned (.tuple #[.slice p m c, .int .i64 0]) ∧ Hid (SlS w' p m c (movR subR v.T v.N S).2 ∧ Below w.heap.size w w') := by
  refine (rmovS v.T v.N S v.qT v.qN r v.nT v.cT v.nN v.cN m d w (h.arg o) o.n o.ln o.mt m1 o.mn).mono ?_
  rintro e w' ⟨p, k, c, rfl, hk, h1⟩
  have hl : (movR subR v.T v.N S).2.length = m := by
    have := congrArg List.length (movS_nm h0)
    rw [List.length_map, List.length_map] at this
    rw [this, h.m]
  obtain rfl : m = k := hl.symm.trans hk
  exact ⟨p, c, by rw [h0]; rfl, ⟨h1.out.1.ga slC_len, short_nm h.h (movS_nm h0), fun e => by subst e; exact h1.out.1.nilc, hl⟩, h1.out.2⟩
theorem admit_neg {now rt : Int} {T U : List V} {R : List Vi} {S : List Sl} (h : now < 0) : admitR now rt T U R S = ([], false, 2) := by
  by_cases h1 : rt < 1 ∨ 1000 < rt ∨ 1099511627776 - rt < now
  · exact admit_range h1
  · have h2 : startR now T R S = (0, [], 2) := startR_range (Bool.eq_false_iff.2 fun q => by have := (wthn_true q).1; omega)
    have h3 := admit_start (now := now) (rt := rt) (T := T) (U := U) (R := R) (S := S) h1 (by rw [h2]; decide)
    rw [h2] at h3
    exact h3
set_option maxHeartbeats 4000000 in
set_option maxRecDepth 100000 in
theorem radmit_any (now rt : Int) (qT qU q r : Option Addr) (nT cT nU cU n c m d : Nat) (T U : List V) (R : List Vi) (S : List Sl) (w : World) (h : Hid (StG w qT nT cT q n r m d T R S)) (hU : Hid (TA w qU U ∧ U.length = nU ∧ nU ≤ 1000000 ∧ (qU = none → cU = 0))) (hn : n ≤ 1000) (hq : Hid (q = none → c = 0)) :
    Calls Tryz.prog 7 #[.int .i64 now, .slice qT nT cT, .slice qU nU cU, .int .i64 rt, .slice q n c, .slice r m d] w (AdP w (admitR now rt T U R S)) := by
  by_cases a1 : rt < 1
  · have HS : Hid (admitR now rt T U R S = ([], false, 2)) := admit_range (.inl a1)
    go_enter Tryz.func7, Tryz.ntmps7
    go_wp2_with fail
    go_ret3
    exact ad_no HS.out (Below.refl _ _)
  by_cases a2 : 1000 < rt
  · have HS : Hid (admitR now rt T U R S = ([], false, 2)) := admit_range (.inr (.inl a2))
    go_enter Tryz.func7, Tryz.ntmps7
    go_wp2_with fail
    go_ret3
    exact ad_no HS.out (Below.refl _ _)
  by_cases a3 : now < 0
  · have HS : Hid (admitR now rt T U R S = ([], false, 2)) := admit_neg a3
    go_enter Tryz.func7, Tryz.ntmps7
    go_wp2_with fail
    go_ret3
    exact ad_no HS.out (Below.refl _ _)
  by_cases a4 : 1099511627776 < now
  · have HS : Hid (admitR now rt T U R S = ([], false, 2)) := admit_range (.inr (.inr (by omega)))
    go_enter Tryz.func7, Tryz.ntmps7
    go_wp2_with fail
    go_ret3
    exact ad_no HS.out (Below.refl _ _)
  have hww : wrap64 (now + rt) = now + rt := by unfold wrap64; omega
  by_cases a5 : 1099511627776 < now + rt
  · have HS : Hid (admitR now rt T U R S = ([], false, 2)) := admit_range (.inr (.inr (by omega)))
    go_enter Tryz.func7, Tryz.ntmps7
    go_wp2_with fail
    go_ret3
    exact ad_no HS.out (Below.refl _ _)
  have ha : ¬ (rt < 1 ∨ 1000 < rt ∨ 1099511627776 - rt < now) := by omega
  obtain ⟨t, ht⟩ : ∃ t, (startR now T R S).1 = t := ⟨_, rfl⟩
  obtain ⟨x, hx⟩ : ∃ x, (startR now T R S).2.2 = x := ⟨_, rfl⟩
  obtain ⟨f, hf⟩ : ∃ f, (fitR U S).1 = f := ⟨_, rfl⟩
  obtain ⟨M, hM⟩ : ∃ M, (fitR U S).2 = M := ⟨_, rfl⟩
  have H9 : Hid (Calls Tryz.prog 14 #[.int .i64 now, .slice qT nT cT, .slice q n c, .slice r m d] w fun e w' => ∃ p k c, e = .returned (.tuple #[.int .i64 t, .slice p k c, .int .i64 (x : Nat)]) ∧ Hid (Below w.heap.size w w')) := (rstart_any now qT q r nT cT n c m d T R S w h.out).mono fun e w' ⟨p, k, c, e1, _, _, e4⟩ => by
    rw [ht, hx] at e1; exact ⟨p, k, c, e1, e4.out.2⟩
  have H16 : Hid (∀ w1, Below w.heap.size w w1 → Calls Tryz.prog 15 #[.slice qU nU cU, .slice r m d] w1 fun e w' => ∃ p k c, e = .returned (.tuple #[.slice p k c, .int .i64 (f : Nat)]) ∧ M.length = k ∧ (p = none → c = 0) ∧ Hid (NA w' p M ∧ Below w1.heap.size w1 w')) := fun w1 b => by
    have g := h.out.below b
    refine (rfit_any U S qU r nU cU m d w1 (hU.out.1.below b) g.s.s g.s.h g.s.d hU.out.2.1 g.s.m hU.out.2.2.1 (by have := g.n3; omega)).mono ?_
    rintro e w' ⟨p, k, c, e1, e2, e3, e4⟩
    rw [hf] at e1; rw [hM] at e2 e4
    exact ⟨p, k, c, e1, e2, e3, e4⟩
  have m1 := fun q => admit_start (now := now) (rt := rt) (T := T) (U := U) (R := R) (S := S) ha q
  have m2 := fun q => admit_full (now := now) (rt := rt) (T := T) (U := U) (R := R) (S := S) ha q
  have m3 := fun q => admit_fit (now := now) (rt := rt) (T := T) (U := U) (R := R) (S := S) ha q
  have m4 := fun q => admit_last (now := now) (rt := rt) (T := T) (U := U) (R := R) (S := S) ha q
  by_cases hx6 : x = 0 ∨ x = 6
  · have hs6 : (startR now T R S).2.2 = 0 ∨ (startR now T R S).2.2 = 6 := by rw [hx]; exact hx6
    by_cases hf6 : f = 6
    · have HS : Hid (admitR now rt T U R S = ([], false, 0)) := m2 hs6 (hf.trans hf6)
      subst hf6
      clear m1 m2 m3 m4 hs6 hf hM ht hx
      rcases hx6 with rfl | rfl
      all_goals
        go_enter Tryz.func7, Tryz.ntmps7
        go_wp2_with (first
          | (go_at_call 14; refine H9.out.mono ?_; rintro e w1 ⟨p1, k1, c1, rfl, b1⟩; clear H9)
          | (go_at_call 15; refine (H16.out _ b1.out).mono ?_; rintro e w2 ⟨p2, k2, c2, rfl, e2, e3, h2⟩; clear H16))
        go_ret3
        exact ad_no HS.out (below_from b1.out h2.out.2 b1.out.size)
    · have g6 : ¬ (f : Int) = 6 := by omega
      have g6' : ((f : Int) == 6) = false := by simpa using g6
      by_cases hf0 : f = 0
      · have hff : (fitR U S).1 = 0 := hf.trans hf0
        have HL := m4 hs6 hff
        have hback := fit_back hff
        have hshort := fit_short h.out.s.h hff
        have hlen : M.length = U.length := by
          rw [← hM]
          exact (fit_room hff).2.1
        rw [hM] at HL hback hshort
        have HV : Hid (∀ w1 p k c, Below w.heap.size w w1 → NA w1 p M → M.length = k → (p = none → c = 0) → (⟨0, now + rt, qU, nU, cU, p, k, c, U, M⟩ : Vi).ok w1) := fun w1 p k c b hN hk hc => by
          obtain ⟨u1, u2, u3, u4⟩ := hU.out
          refine ⟨(by show in64 0; decide), (by show in64 (now + rt); unfold in64; omega), u1.below b, u4, u2, hN, hc, hk, hshort, u3, ?_⟩
          show k ≤ 1000000
          omega
        obtain ⟨t2, ht2⟩ : ∃ y, (withR now rt T U M R S).1 = y := ⟨_, rfl⟩
        obtain ⟨x2, hx2⟩ : ∃ y, (withR now rt T U M R S).2.2 = y := ⟨_, rfl⟩
        have H17 : Hid (∀ W p k c, Below w.heap.size w W → NA W p M → M.length = k → (p = none → c = 0) → Calls Tryz.prog 16 #[.slice qU nU cU, .slice p k c, .slice r m d, .bool false] W fun e w' => ∃ p' c', e = .returned (.tuple #[.slice p' m c', .int .i64 0]) ∧ Hid (SlS w' p' m c' (movR subR U M S).2 ∧ Below W.heap.size W w')) := fun W p k c b hN hk hc => rafter_sl (HV.out W p k c b hN hk hc) (h.out.s.below b) hback.1 (by have := h.out.n3; omega)
        have H14 : Hid (∀ W p3 k3 c3 q p' c c', Below w.heap.size w W → NA W p3 M → M.length = k3 → (p3 = none → c3 = 0) → VA W q (R ++ [⟨0, now + rt, qU, nU, cU, p3, k3, c3, U, M⟩]) → SlS W p' m c' (movR subR U M S).2 → Calls Tryz.prog 14 #[.int .i64 now, .slice qT nT cT, .slice q (n + 1) c, .slice p' m c'] W fun e w' => ∃ p k c, e = .returned (.tuple #[.int .i64 t2, .slice p k c, .int .i64 (x2 : Nat)]) ∧ Hid (Below W.heap.size W w')) := fun W p3 k3 c3 q p' c c' b hN hk hc hva hsl => by
          have g0 := h.out.below b
          refine (rstart_any now qT q p' nT cT (n + 1) c m c' T (R ++ [⟨0, now + rt, qU, nU, cU, p3, k3, c3, U, M⟩]) _ W ⟨g0.t, g0.lt, hsl, hva, fun u hu => ?_, by rw [List.length_append, g0.lr]; rfl, g0.n1, by omega, g0.n3, g0.ct⟩).mono ?_
          · rcases List.mem_append.1 hu with q | q
            · exact g0.o u q
            · rw [List.mem_singleton.1 q]; exact HV.out W p3 k3 c3 b hN hk hc
          · rintro e w' ⟨p, k, c, e1, _, _, h4⟩
            have e3 := start_last now T R (movR subR U M S).2 (v := ⟨0, now + rt, qU, nU, cU, p3, k3, c3, U, M⟩) (u := ahV now rt U M) rfl rfl rfl
            rw [e3] at e1
            have e4 : startR now T (R ++ [ahV now rt U M]) (movR subR U M S).2 = withR now rt T U M R S := rfl
            rw [e4, ht2, hx2] at e1
            exact ⟨p, k, c, e1, h4.out.2⟩
        have HLL : Hid (R.length = n ∧ VA w q R) := ⟨h.out.lr, h.out.v⟩
        subst hf0
        rw [hx, ht, ht2, hx2] at HL
        have HL' : Hid (admitR now rt T U R S = if x = 0 ∧ ¬ (x2 = 0 ∧ t2 = t) then ([], false, 0) else (M, true, 0)) := HL
        clear m1 m2 m3 m4 hs6 hf hM ht hx HL hback hshort hlen hff HV ht2 hx2 h hU
        rcases hx6 with rfl | rfl
        · have hE : Hid ((x2 = 0 ∧ t2 = t ∧ admitR now rt T U R S = (M, true, 0)) ∨ (¬ (x2 = 0 ∧ t2 = t) ∧ admitR now rt T U R S = ([], false, 0))) := by
            by_cases h1 : x2 = 0 ∧ t2 = t
            · exact .inl ⟨h1.1, h1.2, by rw [HL'.out, if_neg (fun q => q.2 h1)]⟩
            · exact .inr ⟨h1, by rw [HL'.out, if_pos ⟨rfl, h1⟩]⟩
          clear HL'
          go_enter Tryz.func7, Tryz.ntmps7
          go_upto_region 13 with (first
            | (go_at_call 14; refine H9.out.mono ?_; rintro e w1 ⟨p1, k1, c1, rfl, b1⟩; clear H9)
            | (go_at_call 15; refine (H16.out _ b1.out).mono ?_; rintro e w2 ⟨p3, k3, c3', rfl, n3, m3, h2⟩; clear H16))
          have B2 : Hid (Below w.heap.size w w2 ∧ NA w2 p3 M) := ⟨below_from b1.out h2.out.2 b1.out.size, h2.out.1⟩
          clear b1 h2
          go_upto_region 15 with (go_at_call 16; refine (H17.out _ _ _ _ B2.out.1 B2.out.2 n3 m3).mono ?_; rintro e w5 ⟨p4, c4, rfl, h4⟩; clear H17)
          have B5 : Hid (Below w.heap.size w w5 ∧ NA w5 p3 M ∧ SlS w5 p4 m c4 (movR subR U M S).2) := ⟨below_from B2.out.1 h4.out.2 B2.out.1.size, B2.out.2.below h4.out.2, h4.out.1⟩
          clear B2 h4
          have hva : VA w5 q R := HLL.out.2.below B5.out.1
          go_upto_region 16 with (at_builtin; refine append_ga (B := w5.heap.size) viC_len viC_one Tryz.underlying34 info62r rfl (by decide) rfl _ _ rfl none 0 0 [] rfl (GRow.nil _ _ _ _ _) (Nat.le_refl _) q n c R rfl HLL.out.1 hva hq.out (by unfold maxLen; omega) (by omega) ?_; intro p6 c6 w6 hr6 hb6)
          rw [List.nil_append, Nat.zero_add] at hr6
          have B6 : Hid (Below w5.heap.size w5 w6 ∧ GRow 54 4 viC w5.heap.size w6 (.slice p6 n c6) R) := ⟨hb6, hr6⟩
          clear hva hr6 hb6
          have B7 : Hid (Below w6.heap.size w6 (w6.alloc (.cells #[.int .i64 0, .int .i64 (now + rt), .slice qU nU cU, .slice p3 k3 c3'] 54))) := (Below.refl _ _).alloc (Nat.le_refl _) _
          have hr7 := B6.out.2.below B7.out
          have hs7 : w5.heap.size ≤ (w6.alloc (.cells #[.int .i64 0, .int .i64 (now + rt), .slice qU nU cU, .slice p3 k3 c3'] 54)).heap.size := Nat.le_trans B6.out.1.size B7.out.size
          have hv7 : VA (w6.alloc (.cells #[.int .i64 0, .int .i64 (now + rt), .slice qU nU cU, .slice p3 k3 c3'] 54)) (some ⟨w6.heap.size, 0, none⟩) [⟨0, now + rt, qU, nU, cU, p3, k3, c3', U, M⟩] := fun i a ha => by
            have hr : (w6.alloc (.cells #[.int .i64 0, .int .i64 (now + rt), .slice qU nU cU, .slice p3 k3 c3'] 54)).heap[w6.heap.size]? = some (.cells #[.int .i64 0, .int .i64 (now + rt), .slice qU nU cU, .slice p3 k3 c3'] 54) := new0
            match i, ha with
            | 0, ha =>
              cases ha
              refine ⟨_, 0, rfl, fun j u hu => ?_⟩
              match j, hu with
              | 0, hu => cases hu; exact Lib.cell_of_heap hr 0
              | 1, hu => cases hu; exact Lib.cell_of_heap hr 1
              | 2, hu => cases hu; exact Lib.cell_of_heap hr 2
              | 3, hu => cases hu; exact Lib.cell_of_heap hr 3
          go_upto_region 17 with (at_builtin; refine append_ga (B := w5.heap.size) viC_len viC_one Tryz.underlying34 info62r rfl (by decide) rfl _ _ rfl p6 n c6 R rfl hr7 hs7 (some ⟨w6.heap.size, 0, none⟩) 1 1 [⟨0, now + rt, qU, nU, cU, p3, k3, c3', U, M⟩] rfl rfl hv7 nofun (by unfold maxLen; omega) (by omega) ?_; intro p8 c8 w8 hr8 hb8)
          have B8 : Hid (Below w.heap.size w w8 ∧ NA w8 p3 M ∧ SlS w8 p4 m c4 (movR subR U M S).2 ∧ VA w8 p8 (R ++ [⟨0, now + rt, qU, nU, cU, p3, k3, c3', U, M⟩])) := by
            have b : Below w5.heap.size w5 w8 := (below_from B6.out.1 B7.out B6.out.1.size).trans hb8
            exact ⟨below_from B5.out.1 b B5.out.1.size, B5.out.2.1.below b, B5.out.2.2.below b, hr8.ga viC_len⟩
          clear hr7 hs7 hv7 hr8 hb8 B7 B6 B5
          rcases hE.out with ⟨rfl, rfl, hS⟩ | ⟨hno, hS⟩
          · have HS : Hid (admitR now rt T U R S = (M, true, 0)) := hS
            clear hS hE
            go_wp2_with (go_at_call 14; refine (H14.out _ _ _ _ _ _ _ _ B8.out.1 B8.out.2.1 n3 m3 B8.out.2.2.2 B8.out.2.2.1).mono ?_; rintro e w9 ⟨p9, k9, c9, rfl, b9⟩; clear H14)
            go_ret3
            exact ⟨p3, k3, c3', by rw [HS.out]; rfl, by rw [HS.out]; exact n3, m3, by rw [HS.out]; exact B8.out.2.1.below b9.out, below_from B8.out.1 b9.out B8.out.1.size⟩
          · have HS : Hid (admitR now rt T U R S = ([], false, 0)) := hS
            clear hS hE
            by_cases h20 : x2 = 0
            · have h21 : ¬ t2 = t := fun q => hno ⟨h20, q⟩
              have h22 : (t2 == t) = false := by simpa using h21
              have h23 : (t2 != t) = true := by simpa using h21
              subst h20
              clear hno
              go_wp2_with (go_at_call 14; refine (H14.out _ _ _ _ _ _ _ _ B8.out.1 B8.out.2.1 n3 m3 B8.out.2.2.2 B8.out.2.2.1).mono ?_; rintro e w9 ⟨p9, k9, c9, rfl, b9⟩; clear H14)
              go_ret3
              exact ad_no HS.out (below_from B8.out.1 b9.out B8.out.1.size)
            · have h21 : ¬ (x2 : Int) = 0 := by omega
              have h22 : ((x2 : Int) == 0) = false := by simpa using h21
              have h23 : ((x2 : Int) != 0) = true := i64_ne h21
              clear hno
              go_wp2_with (go_at_call 14; refine (H14.out _ _ _ _ _ _ _ _ B8.out.1 B8.out.2.1 n3 m3 B8.out.2.2.2 B8.out.2.2.1).mono ?_; rintro e w9 ⟨p9, k9, c9, rfl, b9⟩; clear H14)
              go_ret3
              exact ad_no HS.out (below_from B8.out.1 b9.out B8.out.1.size)
        · have HS : Hid (admitR now rt T U R S = (M, true, 0)) := by
            show _ = _
            rw [HL'.out, if_neg (fun q => absurd q.1 (by decide))]
          clear HL' H17 H14 HLL
          go_enter Tryz.func7, Tryz.ntmps7
          go_wp2_with (first
            | (go_at_call 14; refine H9.out.mono ?_; rintro e w1 ⟨p1, k1, c1, rfl, b1⟩; clear H9)
            | (go_at_call 15; refine (H16.out _ b1.out).mono ?_; rintro e w2 ⟨p2, k2, c2, rfl, e2, e3, h2⟩; clear H16))
          go_ret3
          exact ⟨p2, k2, c2, by rw [HS.out]; rfl, by rw [HS.out]; exact e2, e3, by rw [HS.out]; exact h2.out.1, below_from b1.out h2.out.2 b1.out.size⟩
      · have HS : Hid (admitR now rt T U R S = ([], false, f)) := by
          have := m3 hs6 (by rw [hf]; exact hf6) (by rw [hf]; exact hf0)
          rw [hf] at this
          exact this
        have g0 : ¬ (f : Int) = 0 := by omega
        have g0' : ((f : Int) == 0) = false := by simpa using g0
        have g0n : ((f : Int) != 0) = true := i64_ne g0
        clear m1 m2 m3 m4 hs6 hf hM ht hx
        rcases hx6 with rfl | rfl
        all_goals
          go_enter Tryz.func7, Tryz.ntmps7
          go_wp2_with (first
            | (go_at_call 14; refine H9.out.mono ?_; rintro e w1 ⟨p1, k1, c1, rfl, b1⟩; clear H9)
            | (go_at_call 15; refine (H16.out _ b1.out).mono ?_; rintro e w2 ⟨p2, k2, c2, rfl, e2, e3, h2⟩; clear H16))
          go_ret3
          exact ad_no HS.out (below_from b1.out h2.out.2 b1.out.size)
  · have HS : Hid (admitR now rt T U R S = ([], false, x)) := by
      have := m1 (by rw [hx]; exact hx6)
      rw [hx] at this
      exact this
    have f0 : ¬ (x : Int) = 0 := by omega
    have f6 : ¬ (x : Int) = 6 := by omega
    have f0' : ((x : Int) == 0) = false := by simpa using f0
    have f6' : ((x : Int) == 6) = false := by simpa using f6
    have f0n : ((x : Int) != 0) = true := i64_ne f0
    have f6n : ((x : Int) != 6) = true := i64_ne f6
    clear m1 m2 m3 m4 hf hM ht hx
    go_enter Tryz.func7, Tryz.ntmps7
    go_wp2_with (go_at_call 14; refine H9.out.mono ?_; rintro e w1 ⟨p1, k1, c1, rfl, b1⟩; clear H9)
    go_ret3
    exact ad_no HS.out b1.out
end Go.Proofs.YtjgibngnjlciaaaGreat

namespace Go.Proofs.YtjgibngnjlciaaaGreat
open Go.RowKit Go.Maps

theorem admit_len (now rt : Int) (T U : List V) (R : List Vi) (S : List Sl) : (admitR now rt T U R S).1.length ≤ U.length := by
  cases h : (admitR now rt T U R S).2.1 with
  | false => rw [admit_no h]; exact Nat.zero_le _
  | true =>
    obtain ⟨h1, h2, _⟩ := admit_yes h
    rw [h2]
    exact Nat.le_of_eq (fit_room h1).2.1
set_option maxHeartbeats 4000000 in
set_option maxRecDepth 100000 in
theorem admits_law (now rt : Int) (qH qL qv r : Option Addr) (nH cH nL cL nv cv m d : Nat) (T U : List V) (L : List Vi) (S : List Sl) (w : World) (hA : LwA w now rt qH nH cH T qL nL cL U qv nv L r m d S) (hcq : qv = none → cv = 0) :
    Calls Tryz.prog 3 #[xA now rt qH nH cH qL nL cL, .slice qv nv cv, .slice r m d] w fun e w' => e = .returned (.bool true) ∧ Below w.heap.size w w' := by
  have H4 : Hid (∀ W, Calls Tryz.prog 4 #[] W fun e w' => e = .returned (.bool true) ∧ Below W.heap.size W w') := awake18
  have H5 : Hid (∀ W, Below w.heap.size w W → Calls Tryz.prog 5 #[xA now rt qH nH cH qL nL cL, .slice qv nv cv, .slice r m d] W fun e w' => e = .returned (.bool (fewV nH nL L m)) ∧ Hid (Below W.heap.size W w')) := hA.few cv
  have HA : Hid (LwA w now rt qH nH cH T qL nL cL U qv nv L r m d S) := hA
  have HCQ : Hid (qv = none → cv = 0) := hcq
  clear hA hcq
  have B0 : Hid (Below w.heap.size w (w.alloc (.cells #[.int .i64 now, .int .i64 rt, .slice qH nH cH, .slice qL nL cL] 24))) := (Below.refl _ w).alloc (Nat.le_refl _) _
  have HN : Hid ((w.alloc (.cells #[.int .i64 now, .int .i64 rt, .slice qH nH cH, .slice qL nL cL] 24)).heap[w.heap.size]? = some (.cells #[.int .i64 now, .int .i64 rt, .slice qH nH cH, .slice qL nL cL] 24)) := new0
  cases hf : fewV nH nL L m with
  | false =>
    rw [hf] at H5
    clear hf HCQ
    go_enter Tryz.func3, Tryz.ntmps3
    go_upto_region 1 with fail
    generalize w.alloc (.cells #[.int .i64 now, .int .i64 rt, .slice qH nH cH, .slice qL nL cL] 24) = W at *
    go_upto_region 2 with (first | (go_at_call 4; refine (H4.out _).mono ?_; rintro e w1 ⟨rfl, b1⟩; have B1 : Hid (Below w.heap.size w w1) := below_from B0.out b1 B0.out.size; have z1 := at_below b1 (Nat.le_refl _) HN.out; have c0 := Lib.cell_of_heap z1 0; have c1 := Lib.cell_of_heap z1 1; have c2 := Lib.cell_of_heap z1 2; have c3 := Lib.cell_of_heap z1 3; clear z1) | (go_at_call 5; refine (H5.out _ B1.out).mono ?_; rintro e w2 ⟨rfl, b2⟩))
    have B2 : Hid (Below w.heap.size w w2) := below_from B1.out b2.out B1.out.size
    clear c0 c1 c2 c3 b1 b2
    go_wp2_with (go_at_call 4; refine (H4.out _).mono ?_; rintro e w3 ⟨rfl, b3⟩)
    go_ret
    exact ⟨rfl, below_from B2.out b3 B2.out.size⟩
  | true =>
    have HG := HA.out.st hf
    obtain ⟨f1, f2, f3, f4, f5⟩ := fewV_le hf
    have HS : Hid (StG w qH nH cH qv nv r m d T L S) := HG
    have hnow : in64 now := HA.out.n
    have HU : Hid (TA w qL U ∧ U.length = nL ∧ nL ≤ 1000000 ∧ (qL = none → cL = 0)) := ⟨HA.out.t2, HA.out.tn2, by omega, HA.out.ct2⟩
    have hnv : nv ≤ 30 := by have := HA.out.vl; omega
    have hm3 : m ≤ 30 := f5
    obtain ⟨N, hN⟩ : ∃ N, (admitR now rt T U L S).1 = N := ⟨_, rfl⟩
    obtain ⟨ok, hok⟩ : ∃ N, (admitR now rt T U L S).2.1 = N := ⟨_, rfl⟩
    obtain ⟨er, her⟩ : ∃ N, (admitR now rt T U L S).2.2 = N := ⟨_, rfl⟩
    have H6 : Hid (∀ W, Below w.heap.size w W → Calls Tryz.prog 6 #[.int .i64 now, .slice qH nH cH, .slice qL nL cL, .int .i64 rt, .slice qv nv cv, .slice r m d] W fun e w' => ∃ p k c, e = .returned (.tuple #[.slice p k c, .bool ok, .int .i64 (er : Nat)]) ∧ N.length = k ∧ Hid (NA w' p N ∧ Below W.heap.size W w')) := fun W b => by
      refine (admit_any now rt qH qL qv r nH cH nL cL nv cv m d T U L S W (HS.out.below b) ⟨HU.out.1.below b, HU.out.2⟩ (by omega) HCQ hnow).mono ?_
      rintro e w' ⟨p, k, c, e1, e2, e3, e4⟩
      rw [hok, her] at e1; rw [hN] at e2 e4
      exact ⟨p, k, c, e1, e2, e4⟩
    have H7 : Hid (∀ W p5 c5 p6 c6, Below w.heap.size w W → VA W p5 L → (p5 = none → c5 = 0) → SlS W p6 m c6 S → Calls Tryz.prog 7 #[.int .i64 now, .slice qH nH cH, .slice qL nL cL, .int .i64 rt, .slice p5 nv c5, .slice p6 m c6] W fun e w' => ∃ p k c, e = .returned (.tuple #[.slice p k c, .bool ok, .int .i64 (er : Nat)]) ∧ N.length = k ∧ Hid (NA w' p N ∧ Below W.heap.size W w')) := fun W p5 c5 p6 c6 b hv hc hs => by
      have g := HS.out.below b
      refine (radmit_any now rt qH qL p5 p6 nH cH nL cL nv c5 m c6 T U L S W ⟨g.t, g.lt, hs, hv, g.o, g.lr, g.n1, g.n2, g.n3, g.ct⟩ ⟨HU.out.1.below b, HU.out.2⟩ (by omega) hc).mono ?_
      rintro e w' ⟨p, k, c, e1, e2, e3, e4⟩
      rw [hok, her] at e1; rw [hN] at e2 e4
      exact ⟨p, k, c, e1, e2, e4⟩
    have HM1 : Hid (N.length ≤ 1000000) := by
      have h1 := admit_len now rt T U L S
      have h2 := HU.out
      rw [hN] at h1
      show N.length ≤ _
      omega
    rw [hf] at H5
    clear hf HG hN hok her f1 f2 f3 f4 f5
    go_enter Tryz.func3, Tryz.ntmps3
    go_upto_region 1 with fail
    generalize w.alloc (.cells #[.int .i64 now, .int .i64 rt, .slice qH nH cH, .slice qL nL cL] 24) = W at *
    go_upto_region 3 with (first | (go_at_call 4; refine (H4.out _).mono ?_; rintro e w1 ⟨rfl, b1⟩; have B1 : Hid (Below w.heap.size w w1 ∧ Below W.heap.size W w1) := ⟨below_from B0.out b1 B0.out.size, b1⟩; have z1 := at_below b1 (Nat.le_refl _) HN.out; have c0 := Lib.cell_of_heap z1 0; have c1 := Lib.cell_of_heap z1 1; have c2 := Lib.cell_of_heap z1 2; have c3 := Lib.cell_of_heap z1 3; clear z1 b1) | (go_at_call 5; refine (H5.out _ B1.out.1).mono ?_; rintro e w2 ⟨rfl, b2⟩))
    have B2 : Hid (Below w.heap.size w w2 ∧ w2.heap[w.heap.size]? = some (.cells #[.int .i64 now, .int .i64 rt, .slice qH nH cH, .slice qL nL cL] 24)) := ⟨below_from B1.out.1 b2.out B1.out.1.size, at_below (below_from B1.out.2 b2.out B1.out.2.size) (Nat.le_refl _) HN.out⟩
    clear c0 c1 c2 c3 b2 B1 H4 H5
    have c0 := Lib.cell_of_heap B2.out.2 0
    have c1 := Lib.cell_of_heap B2.out.2 1
    have c2 := Lib.cell_of_heap B2.out.2 2
    have c3 := Lib.cell_of_heap B2.out.2 3
    go_upto_region 4 with (go_at_call 6; refine (H6.out _ B2.out.1).mono ?_; rintro e w3 ⟨p3, k3, c3', rfl, n3, h3⟩)
    have B3 : Hid (Below w.heap.size w w3) := below_from B2.out.1 h3.out.2 B2.out.1.size
    have Y3 : Hid (∀ W, Below w3.heap.size w3 W → (W.cell? ⟨w.heap.size, 0, none⟩ = some (.int .i64 now) ∧ W.cell? ⟨w.heap.size, 1, none⟩ = some (.int .i64 rt)) ∧ W.cell? ⟨w.heap.size, 2, none⟩ = some (.slice qH nH cH) ∧ W.cell? ⟨w.heap.size, 3, none⟩ = some (.slice qL nL cL)) := fun W b => by
      have b' := below_from h3.out.2 b h3.out.2.size
      exact ⟨⟨cell_below c0 b', cell_below c1 b'⟩, cell_below c2 b', cell_below c3 b'⟩
    have H8 : Hid (∀ W, Below w3.heap.size w3 W → Calls Tryz.prog 8 #[.slice qv nv cv] W fun e w' => ∃ p c', e = .returned (.slice p nv c') ∧ Hid (VA w' p L ∧ Below W.heap.size W w' ∧ Below w3.heap.size w3 w' ∧ (p = none → c' = 0)) ∧ ((w'.cell? ⟨w.heap.size, 0, none⟩ = some (.int .i64 now) ∧ w'.cell? ⟨w.heap.size, 1, none⟩ = some (.int .i64 rt)) ∧ w'.cell? ⟨w.heap.size, 2, none⟩ = some (.slice qH nH cH) ∧ w'.cell? ⟨w.heap.size, 3, none⟩ = some (.slice qL nL cL))) := fun W b => by
      have b7 := below_from B3.out b B3.out.size
      refine (vplain_any W qv nv cv L HA.out.vl (by omega) (HA.out.v.below b7)).mono ?_
      rintro e w' ⟨p, c', rfl, h⟩
      have b8 := below_from b h.out.2 b.size
      exact ⟨p, c', rfl, ⟨h.out.1.ga viC_len, h.out.2, b8, fun e => by subst e; exact h.out.1.nilc⟩, Y3.out w' b8⟩
    have H9 : Hid (∀ W, Below w3.heap.size w3 W → Calls Tryz.prog 9 #[.slice r m d] W fun e w' => ∃ p c', e = .returned (.slice p m c') ∧ Hid (SlS w' p m c' S ∧ Below W.heap.size W w' ∧ Below w3.heap.size w3 w') ∧ ((w'.cell? ⟨w.heap.size, 0, none⟩ = some (.int .i64 now) ∧ w'.cell? ⟨w.heap.size, 1, none⟩ = some (.int .i64 rt)) ∧ w'.cell? ⟨w.heap.size, 2, none⟩ = some (.slice qH nH cH) ∧ w'.cell? ⟨w.heap.size, 3, none⟩ = some (.slice qL nL cL))) := fun W b => by
      have b7 := below_from B3.out b B3.out.size
      refine (plain_any W r m d S HA.out.s.m (by omega) (HA.out.s.s.below b7)).mono ?_
      rintro e w' ⟨p, c', rfl, h⟩
      have b8 := below_from b h.out.2 b.size
      exact ⟨p, c', rfl, ⟨⟨h.out.1.ga slC_len, HA.out.s.h, fun e => by subst e; exact h.out.1.nilc, HA.out.s.m⟩, h.out.2, b8⟩, Y3.out w' b8⟩
    have H7' : Hid (∀ W p5 c5 p6 c6, Below w3.heap.size w3 W → VA W p5 L → (p5 = none → c5 = 0) → SlS W p6 m c6 S → Calls Tryz.prog 7 #[.int .i64 now, .slice qH nH cH, .slice qL nL cL, .int .i64 rt, .slice p5 nv c5, .slice p6 m c6] W fun e w' => ∃ p k c, e = .returned (.tuple #[.slice p k c, .bool ok, .int .i64 (er : Nat)]) ∧ N.length = k ∧ Hid (NA w' p N ∧ Below w3.heap.size w3 w') ∧ ((w'.cell? ⟨w.heap.size, 0, none⟩ = some (.int .i64 now) ∧ w'.cell? ⟨w.heap.size, 1, none⟩ = some (.int .i64 rt)) ∧ w'.cell? ⟨w.heap.size, 2, none⟩ = some (.slice qH nH cH) ∧ w'.cell? ⟨w.heap.size, 3, none⟩ = some (.slice qL nL cL))) := fun W p5 c5 p6 c6 b hv hc hs => by
      refine (H7.out W p5 c5 p6 c6 (below_from B3.out b B3.out.size) hv hc hs).mono fun e w' ⟨p, k, c, e1, e2, e3⟩ => ?_
      have b8 := below_from b e3.out.2 b.size
      exact ⟨p, k, c, e1, e2, ⟨e3.out.1, b8⟩, Y3.out w' b8⟩
    have N3 : Hid (NA w3 p3 N) := h3.out.1
    have z0 := (Y3.out w3 (Below.refl _ _)).1.1
    have z1 := (Y3.out w3 (Below.refl _ _)).1.2
    have z2 := (Y3.out w3 (Below.refl _ _)).2.1
    have z3 := (Y3.out w3 (Below.refl _ _)).2.2
    have D3 : Hid (Below w3.heap.size w3 w3.drew) := (Below.refl _ _).drew
    clear c0 c1 c2 c3 h3 B2 H7 H6
    cases ok
    all_goals
      go_region_held3 (fun W : World => (W.cell? ⟨w.heap.size, 0, none⟩ = some (.int .i64 now) ∧ W.cell? ⟨w.heap.size, 1, none⟩ = some (.int .i64 rt)) ∧ W.cell? ⟨w.heap.size, 2, none⟩ = some (.slice qH nH cH) ∧ W.cell? ⟨w.heap.size, 3, none⟩ = some (.slice qL nL cL)) (first | (with_reducible assumption) | (with_reducible exact z5) | (with_reducible exact z6) | (with_reducible exact z7) | go_keep) (first | (go_at_call 8; refine (H8.out _ (by first | exact D3.out | exact h6.out.2.2)).mono ?_; rintro e w5 ⟨p5, c5, rfl, h5, z5⟩) | (go_at_call 9; refine (H9.out _ (by first | exact D3.out | exact h5.out.2.2.1)).mono ?_; rintro e w6 ⟨p6, c6, rfl, h6, z6⟩) | (go_at_call 7; refine (H7'.out _ _ _ _ _ (by first | exact h6.out.2.2 | exact h5.out.2.2.1) (by first | exact h5.out.1 | exact h5.out.1.below h6.out.2.1) h5.out.2.2.2 (by first | exact h6.out.1 | exact h6.out.1.below h5.out.2.1)).mono ?_; rintro e w7 ⟨p7, k7, c7, rfl, n7, h7, z7⟩))
      all_goals
        obtain rfl : k3 = k7 := n3.symm.trans n7
        have H10 : Hid (Calls Tryz.prog 10 #[.slice p3 k3 c3', .slice p7 k3 c7] w7 fun e w' => e = .returned (.bool true) ∧ Hid (Below w7.heap.size w7 w')) := same_any w7 k3 c3' c7 p3 p7 N (N3.out.below h7.out.2) h7.out.1 n3 (by have := HM1.out; omega)
        go_wp2_with (go_at_call 10; refine H10.out.mono ?_; rintro e w8 ⟨rfl, b8⟩)
        go_ret
        exact ⟨rfl, below_from (below_from B3.out h7.out.2 B3.out.size) b8.out (Nat.le_trans B3.out.size h7.out.2.size)⟩
end Go.Proofs.YtjgibngnjlciaaaGreat
