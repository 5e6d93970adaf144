/-
  The laws' plain and slots. The document's slots at a tick, and its errors. The document's errors, and its Start. The document's Start.
-/
import Derived.Test.YtjgibngnjlciaaaFa
import Derived.Deep.RegionHeldLaw
import Derived.Deep.RegionLaw
import Derived.Deep.AppendLies
import Derived.Test.YtjgibngnjlciaaaFb
import Derived.Test.YtjgibngnjlciaaaGi
import Derived.Deep.RegionHeld3
import Derived.Test.YtjgibngnjlciaaaFk
namespace Go.Proofs.Ytjgibngnjlciaaa
open Go.RowKit Go.Maps Go.WideMaps Go.Sort

theorem info62r : (Try.prog.info? 62).map (fun i => (i.zero, i.size, i.bytes)) = some (some (.agg #[.int .i64 0, .int .i64 0, .slice none 0 0, .slice none 0 0]), 4, 64) := by kernel_rfl
/-- a row of runs as the document has them -/
abbrev WR (b : Nat) (w : World) (v : Value) (L : List Vi) : Prop := GRow 62 4 viC b w v L
theorem wr_add {w wr w4 : World} {p : Option Addr} {k c g cap : Nat} {L : List Vi} {e : Vi} {xs : List Value} {o : Obj} (hL : L[k]? = some e) (hB : Below w.heap.size w wr) (hO : WR w.heap.size wr (.slice p k c) (L.take k)) (ho : w4.ownsRow w.heap.size 62 4 (.slice (some ⟨g, 0, none⟩) (k + 1) cap) (k + 1) (xs ++ viC e)) (hx : xs = (L.take k).flatMap viC) (hg : ((wr.alloc o).drew).grownBy w4 (Value.slice p k c).ownBlock) : WR w.heap.size w4 (.slice (some ⟨g, 0, none⟩) (k + 1) cap) (L.take (k + 1)) ∧ Below w.heap.size w w4 := by
  have hk := (List.getElem?_eq_some_iff.1 hL).1
  have hsz : w.heap.size ≤ ((wr.alloc o).drew).heap.size := by have := hB.size; simp; omega
  refine ⟨?_, ((hB.alloc hB.size _).drew).trans (below_grown hg hsz fun g e => hO.ge e)⟩
  unfold WR GRow
  rw [List.take_add_one, hL, List.length_append, List.length_take, Nat.min_eq_left (by omega), List.flatMap_append]
  rw [hx] at ho
  simpa using ho
set_option maxHeartbeats 2000000 in
set_option maxRecDepth 100000 in
theorem plain_any (w : World) (s : Option Addr) (n c : Nat) (L : List Sl) (hl : Hid (L.length = n)) (hn : n ≤ 1000) (hr : Hid (SA w s L)) :
    Calls Try.prog 12 #[.slice s n c] w fun e w' => ∃ p c', e = .returned (.slice p n c') ∧ Hid (RR w.heap.size w' (.slice p n c') L ∧ Below w.heap.size w w') := by
  obtain ⟨i0, hi, hz0, hz1, hz2⟩ := info_parts info62
  have HI : Hid (Try.prog.info? 64 = some i0 ∧ i0.zero = some (.agg #[.string ⟨#[]⟩, .int .i64 0, .int .i64 0, .int .i64 0, .int .i64 0]) ∧ i0.size = 5 ∧ i0.bytes = 48) := ⟨hi, hz0, hz1, hz2⟩
  clear hi hz0 hz1 hz2
  go_enter Try.func12, Try.ntmps12
  go_wp2_with fail
  go_loopw [3, 4] (fun v x wr => ∃ (k : Nat) (p : Option Addr) (c' : Nat), v = .slice p k c' ∧ x = .int .i64 k ∧ k ≤ n ∧ Hid (RR w.heap.size wr (.slice p k c') (L.take k) ∧ Below w.heap.size w wr)) (fun _ x _ => n - (intOf x).toNat)
  case atStart => exact ⟨0, none, 0, rfl, rfl, Nat.zero_le _, GRow.nil _ _ _ _ _, Below.refl _ _⟩
  case round =>
    obtain ⟨k, p, c', rfl, rfl, hk, HB⟩ := hrel
    by_cases h0 : k = n
    · subst h0
      go_wp2_with fail
      go_ret
      refine ⟨p, c', rfl, ?_, HB.out.2⟩
      have := HB.out.1
      rwa [List.take_of_length_le (by have := hl.out; omega)] at this
    · have hlt' : (k : Int) < (n : Int) := by omega
      obtain ⟨v, hv⟩ : ∃ v, L[k]? = some v := ⟨L[k]'(by have := hl.out; omega), List.getElem?_eq_getElem _⟩
      obtain ⟨q, o, rfl, c0, c1, c2, c3, c4⟩ := SA.at (hr.out.below HB.out.2) hv
      have c2 : wr.cell? ⟨q, o + k * 5 + 1 + 1, none⟩ = some (.int .i64 v.v.b) := c2
      have c3 : wr.cell? ⟨q, o + k * 5 + 1 + 2, none⟩ = some (.int .i64 v.v.c) := c3
      have c4 : wr.cell? ⟨q, o + k * 5 + 1 + 3, none⟩ = some (.int .i64 v.v.d) := c4
      have O1 : Hid ((wr.alloc (.cells #[.string ⟨⟨v.nm⟩⟩, .int .i64 v.v.a, .int .i64 v.v.b, .int .i64 v.v.c, .int .i64 v.v.d] 64)).drew.ownsRow w.heap.size 64 5 (.slice p k c') k ((L.take k).flatMap slC)) := by
        have := HB.out.1.below (((Below.refl _ wr).alloc (Nat.le_refl _) (.cells #[.string ⟨⟨v.nm⟩⟩, .int .i64 v.v.a, .int .i64 v.v.b, .int .i64 v.v.c, .int .i64 v.v.d] 64)).drew)
        unfold GRow at this
        rwa [List.length_take, hl.out, Nat.min_eq_left hk] at this
      have HN : Hid (∀ j u, (slC v)[j]? = some u → (wr.alloc (.cells #[.string ⟨⟨v.nm⟩⟩, .int .i64 v.v.a, .int .i64 v.v.b, .int .i64 v.v.c, .int .i64 v.v.d] 64)).drew.cell? ((⟨wr.heap.size, 0, none⟩ : Addr).add j) = some u) := World.news_of_block (cs := #[.string ⟨⟨v.nm⟩⟩, .int .i64 v.v.a, .int .i64 v.v.b, .int .i64 v.v.c, .int .i64 v.v.d]) (t := 64) (fr := (0, 0)) new0
      have HS : Hid ((wr.alloc (.cells #[.string ⟨⟨v.nm⟩⟩, .int .i64 v.v.a, .int .i64 v.v.b, .int .i64 v.v.c, .int .i64 v.v.d] 64)).drew.heap.size = wr.heap.size + 1) := by
        refine (?_ : _ = _)
        simp
      have HZ : Hid (w.heap.size ≤ (wr.alloc (.cells #[.string ⟨⟨v.nm⟩⟩, .int .i64 v.v.a, .int .i64 v.v.b, .int .i64 v.v.c, .int .i64 v.v.d] 64)).drew.heap.size) := by
        have h9 := HB.out.2.size
        refine (?_ : w.heap.size ≤ _)
        simp
        omega
      have HF : Hid (∀ g cap w4, w4.ownsRow w.heap.size 64 5 (.slice (some ⟨g, 0, none⟩) (k + 1) cap) (k + 1) ((L.take k).flatMap slC ++ slC v) → (wr.alloc (.cells #[.string ⟨⟨v.nm⟩⟩, .int .i64 v.v.a, .int .i64 v.v.b, .int .i64 v.v.c, .int .i64 v.v.d] 64)).drew.grownBy w4 (Value.slice p k c').ownBlock → RR w.heap.size w4 (.slice (some ⟨g, 0, none⟩) (k + 1) cap) (L.take (k + 1)) ∧ Below w.heap.size w w4) := fun g cap w4 h1 h2 => rr_add hv HB.out.2 HB.out.1 h1 rfl h2
      clear hv HB hr
      go_wp2_with fail
      go_region_law (refine step_append_lies _ rfl (.tmp 11) (.tmp 23) 36 rfl w.heap.size 64 i0 _ 5 48 Try.underlying36 HI.out.1 HI.out.2.1 HI.out.2.2.1 HI.out.2.2.2 rfl (by decide) (.slice p k c') k ((L.take k).flatMap slC) (by simp [Act.eval]) O1.out ⟨wr.heap.size, 0, none⟩ 1 1 (slC v) (by simp [Act.eval]) rfl HN.out (slC_one v) (by decide) (by unfold maxLen; omega) (by omega) HZ.out _ HS.out ?_; intro g cap w4 hown hgrow hat hlt; have HW : Hid (RR w.heap.size w4 (.slice (some ⟨g, 0, none⟩) (k + 1) cap) (L.take (k + 1)) ∧ Below w.heap.size w w4) := HF.out g cap w4 hown hgrow; clear hown hgrow hat hlt)
      all_goals go_wp2_with fail
      all_goals
        refine ⟨⟨k + 1, _, _, rfl, by simp, by omega, HW⟩, ?_⟩
        simp only [intOf]
        omega
set_option maxHeartbeats 20000000 in
set_option maxRecDepth 100000 in
theorem vplain_any (w : World) (s : Option Addr) (n c : Nat) (L : List Vi) (hl : Hid (L.length = n)) (hn : n ≤ 1000) (hr : Hid (VA w s L)) :
    Calls Try.prog 11 #[.slice s n c] w fun e w' => ∃ p c', e = .returned (.slice p n c') ∧ Hid (WR w.heap.size w' (.slice p n c') L ∧ Below w.heap.size w w') := by
  obtain ⟨i0, hi, hz0, hz1, hz2⟩ := info_parts info62r
  have HI : Hid (Try.prog.info? 62 = some i0 ∧ i0.zero = some (.agg #[.int .i64 0, .int .i64 0, .slice none 0 0, .slice none 0 0]) ∧ i0.size = 4 ∧ i0.bytes = 64) := ⟨hi, hz0, hz1, hz2⟩
  clear hi hz0 hz1 hz2
  go_enter Try.func11, Try.ntmps11
  go_wp2_with fail
  go_loopw [3, 4] (fun v x wr => ∃ (k : Nat) (p : Option Addr) (c' : Nat), v = .slice p k c' ∧ x = .int .i64 k ∧ k ≤ n ∧ Hid (WR w.heap.size wr (.slice p k c') (L.take k) ∧ Below w.heap.size w wr)) (fun _ x _ => n - (intOf x).toNat)
  case atStart => exact ⟨0, none, 0, rfl, rfl, Nat.zero_le _, GRow.nil _ _ _ _ _, Below.refl _ _⟩
  case round =>
    obtain ⟨k, p, c', rfl, rfl, hk, HB⟩ := hrel
    by_cases h0 : k = n
    · subst h0
      go_wp2_with fail
      go_ret
      refine ⟨p, c', rfl, ?_, HB.out.2⟩
      have := HB.out.1
      rwa [List.take_of_length_le (by have := hl.out; omega)] at this
    · have hlt' : (k : Int) < (n : Int) := by omega
      obtain ⟨v, hv⟩ : ∃ v, L[k]? = some v := ⟨L[k]'(by have := hl.out; omega), List.getElem?_eq_getElem _⟩
      obtain ⟨q, o, rfl, c0, c1, c2, c3⟩ := VA.at (hr.out.below HB.out.2) hv
      have O1 : Hid ((wr.alloc (.cells #[.int .i64 v.j, .int .i64 v.p, .slice v.qT v.nT v.cT, .slice v.qN v.nN v.cN] 62)).drew.ownsRow w.heap.size 62 4 (.slice p k c') k ((L.take k).flatMap viC)) := by
        have := HB.out.1.below (((Below.refl _ wr).alloc (Nat.le_refl _) (.cells #[.int .i64 v.j, .int .i64 v.p, .slice v.qT v.nT v.cT, .slice v.qN v.nN v.cN] 62)).drew)
        unfold GRow at this
        rwa [List.length_take, hl.out, Nat.min_eq_left hk] at this
      have HN : Hid (∀ j u, (viC v)[j]? = some u → (wr.alloc (.cells #[.int .i64 v.j, .int .i64 v.p, .slice v.qT v.nT v.cT, .slice v.qN v.nN v.cN] 62)).drew.cell? ((⟨wr.heap.size, 0, none⟩ : Addr).add j) = some u) := World.news_of_block (cs := #[.int .i64 v.j, .int .i64 v.p, .slice v.qT v.nT v.cT, .slice v.qN v.nN v.cN]) (t := 62) (fr := (0, 0)) new0
      have HS : Hid ((wr.alloc (.cells #[.int .i64 v.j, .int .i64 v.p, .slice v.qT v.nT v.cT, .slice v.qN v.nN v.cN] 62)).drew.heap.size = wr.heap.size + 1) := by
        refine (?_ : _ = _)
        simp
      have HZ : Hid (w.heap.size ≤ (wr.alloc (.cells #[.int .i64 v.j, .int .i64 v.p, .slice v.qT v.nT v.cT, .slice v.qN v.nN v.cN] 62)).drew.heap.size) := by
        have h9 := HB.out.2.size
        refine (?_ : w.heap.size ≤ _)
        simp
        omega
      have HF : Hid (∀ g cap w4, w4.ownsRow w.heap.size 62 4 (.slice (some ⟨g, 0, none⟩) (k + 1) cap) (k + 1) ((L.take k).flatMap viC ++ viC v) → (wr.alloc (.cells #[.int .i64 v.j, .int .i64 v.p, .slice v.qT v.nT v.cT, .slice v.qN v.nN v.cN] 62)).drew.grownBy w4 (Value.slice p k c').ownBlock → WR w.heap.size w4 (.slice (some ⟨g, 0, none⟩) (k + 1) cap) (L.take (k + 1)) ∧ Below w.heap.size w w4) := fun g cap w4 h1 h2 => wr_add hv HB.out.2 HB.out.1 h1 rfl h2
      have HKW : Hid (∀ W, Below w.heap.size w W → W.cell? ⟨q, o + k * 4, none⟩ = some (.int .i64 v.j) ∧ W.cell? ⟨q, o + k * 4 + 1, none⟩ = some (.int .i64 v.p) ∧ W.cell? ⟨q, o + k * 4 + 2, none⟩ = some (.slice v.qT v.nT v.cT) ∧ W.cell? ⟨q, o + k * 4 + 3, none⟩ = some (.slice v.qN v.nN v.cN)) := fun W b => by
        obtain ⟨g', o', e, q0, q1, q2, q3⟩ := VA.at (hr.out.below b) hv
        cases e
        exact ⟨q0, q1, q2, q3⟩
      clear hv HB hr
      go_wp2_with fail
      go_region_held_law (fun w' => w'.cell? ⟨q, o + k * 4, none⟩ = some (.int .i64 v.j) ∧ w'.cell? ⟨q, o + k * 4 + 1, none⟩ = some (.int .i64 v.p) ∧ w'.cell? ⟨q, o + k * 4 + 2, none⟩ = some (.slice v.qT v.nT v.cT) ∧ w'.cell? ⟨q, o + k * 4 + 3, none⟩ = some (.slice v.qN v.nN v.cN)) (first | go_keep | exact HKW.out _ (Hid.out (by assumption)))
        ((refine step_append_lies _ (by rfl) (.tmp 11) (.tmp 33) 34 (by rfl) w.heap.size 62 i0 _ 4 64 Try.underlying34 HI.out.1 HI.out.2.1 HI.out.2.2.1 HI.out.2.2.2 rfl (by decide) (.slice p k c') k ((L.take k).flatMap viC) (by rfl) O1.out ⟨wr.heap.size, 0, none⟩ 1 1 (viC v) (by rfl) rfl HN.out (viC_one v) (by decide) (by unfold maxLen; omega) (by omega) HZ.out _ HS.out ?_; intro g cap w4 hown hgrow hat hlt; have HW : Hid (WR w.heap.size w4 (.slice (some ⟨g, 0, none⟩) (k + 1) cap) (L.take (k + 1)) ∧ Below w.heap.size w w4) := HF.out g cap w4 hown hgrow; have HB4 : Hid (Below w.heap.size w w4) := HW.out.2; clear hown hgrow hat hlt))
      all_goals go_wp2_with fail
      all_goals
        refine ⟨⟨k + 1, _, _, rfl, by simp, by omega, HW⟩, ?_⟩
        simp only [intOf]
        omega
end Go.Proofs.Ytjgibngnjlciaaa

namespace Go.Proofs.Ytjgibngnjlciaaa
open Go.RowKit Go.Maps Go.WideMaps Go.Sort

theorem drop_at_cons' {α : Type} {l : List α} {k : Nat} {x : α} (h : l[k]? = some x) : l.drop k = x :: l.drop (k + 1) := by
  obtain ⟨h1, rfl⟩ := List.getElem?_eq_some_iff.1 h
  exact List.drop_eq_getElem_cons h1
theorem part_perm {R : List Vi} (p : Vi → Bool) {k : Nat} {v : Vi} (hv : R[k]? = some v) : (((R.take k).filter p ++ [v]) ++ ((R.take k).filter (fun x => !p x) ++ R.drop (k + 1))).Perm R := by
  have h1 : R = R.take k ++ v :: R.drop (k + 1) := by rw [← drop_at_cons' hv, List.take_append_drop]
  have h2 := List.filter_append_perm p (R.take k)
  conv => rhs; rw [h1]
  refine List.Perm.trans ?_ (h2.append_right _)
  rw [List.append_assoc, List.append_assoc]
  refine List.Perm.append_left _ ?_
  rw [List.singleton_append]
  exact (List.perm_middle).symm
theorem part_give {R : List Vi} {S : List Sl} (hG : Gv R S) (hS : allS S = true) (p : Vi → Bool) {k : Nat} {v : Vi} (hv : R[k]? = some v) (hp : p v = true) : movR addR v.T v.N (slA ((R.take k).filter p) S) = (0, slA ((R.take (k + 1)).filter p) S) := by
  have hA : Gv ((R.take k).filter p ++ [v]) S := hG.sub hS (part_perm p hv)
  have hB : Gv ((R.take k).filter p) S := hA.sub hS (List.Perm.refl _)
  have e1 := give_all _ S hS hA
  have e2 := give_all _ S hS hB
  rw [gvG_append, e2, if_pos rfl] at e1
  have e3 : (if (movR addR v.T v.N (slA ((R.take k).filter p) S)).1 = 0 then (0, (movR addR v.T v.N (slA ((R.take k).filter p) S)).2) else ((movR addR v.T v.N (slA ((R.take k).filter p) S)).1, [])) = (0, slA ((R.take k).filter p ++ [v]) S) := e1
  have e4 : (R.take (k + 1)).filter p = (R.take k).filter p ++ [v] := by
    rw [take_next hv, List.filter_append, List.filter_cons_of_pos hp]; rfl
  rw [e4]
  by_cases h0 : (movR addR v.T v.N (slA ((R.take k).filter p) S)).1 = 0
  · rw [if_pos h0] at e3
    have := congrArg Prod.snd e3
    exact Prod.ext h0 this
  · rw [if_neg h0] at e3
    exact absurd (congrArg Prod.fst e3) h0
theorem part_skip {R : List Vi} {S : List Sl} (p : Vi → Bool) {k : Nat} {v : Vi} (hv : R[k]? = some v) (hp : p v = false) : slA ((R.take (k + 1)).filter p) S = slA ((R.take k).filter p) S := by
  rw [take_next hv, List.filter_append, List.filter_cons_of_neg (by rw [hp]; decide), List.filter_nil, List.append_nil]
/-- one gives back, as the document has it -/
theorem rmov_vi (v : Vi) (S : List Sl) (r : Option Addr) (m d : Nat) (w : World) (o : v.ok w) (h : SlS w r m d S) (m1 : m ≤ 1000000) : Calls Try.prog 44 #[.slice v.qT v.nT v.cT, .slice v.qN v.nN v.cN, .slice r m d, .bool true] w (GvO w v S) := by
  refine (rmovA v.T v.N S v.qT v.qN r v.nT v.cT v.nN v.cN m d w (h.arg o) o.n o.ln o.mt m1 o.mn).mono ?_
  rintro e w' ⟨p, k, c, rfl, hk, h1⟩
  refine ⟨p, k, c, rfl, h1.out.2, fun h0 => ⟨⟨h1.out.1.ga slC_len, short_nm h.h (movR_nm h0), fun e => by subst e; exact h1.out.1.nilc, hk⟩, fun g e => ?_⟩⟩
  obtain ⟨a, c', q⟩ := h1.out.1.shape
  rcases h1.out.1.2 with ⟨e1, _⟩ | ⟨g', cap, cur, e1, hb, _⟩
  · cases e1; cases e
  · cases e1; cases e; exact ⟨hb, h1.out.1.lt rfl⟩
def RAt (w : World) (m : Nat) (L : List Sl) (e : Ending) (w' : World) : Prop := ∃ p c', e = .returned (.slice p m c') ∧ Hid (SlS w' p m c' L ∧ Below w.heap.size w w')
set_option maxHeartbeats 4000000 in
set_option maxRecDepth 100000 in
theorem rat_any (now t : Int) (R : List Vi) (S : List Sl) (q r : Option Addr) (n c m d : Nat) (w : World) (hR : Hid (VA w q R)) (hO : Hid (VOk w R)) (hn : Hid (R.length = n)) (hs : Hid (SlS w r m d S)) (n1 : n ≤ 1000000) (m1 : m ≤ 1000) (hG : Hid (Gv R S)) (hS : Hid (allS S = true)) (ht : now < t) :
    Calls Try.prog 25 #[.int .i64 now, .int .i64 t, .slice q n c, .slice r m d] w (RAt w m (stA now R S t)) := by
  have H45 : Hid (Calls Try.prog 45 #[.slice r m d] w fun e w' => ∃ p c', e = .returned (.slice p m c') ∧ Hid (RR w.heap.size w' (.slice p m c') S ∧ Below w.heap.size w w')) := copy_any w r m d S hs.out.s hs.out.m hs.out.d (by omega)
  have ht' : decide (now < t) = true := decide_eq_true ht
  go_enter Try.func25, Try.ntmps25
  go_upto_region 2 with (go_at_call 45; refine H45.out.mono ?_; rintro e w1 ⟨p, c', rfl, h1⟩)
  have H0 : Hid (SlS w1 p m c' S ∧ Below w.heap.size w w1) := ⟨⟨h1.out.1.ga slC_len, hs.out.h, fun e => by subst e; exact h1.out.1.nilc, hs.out.m⟩, h1.out.2⟩
  clear H45 h1
  go_wp2_with fail
  go_loopw [9, 10] (fun x y wr => ∃ (p : Option Addr) (c' k : Nat), x = .slice p m c' ∧ y = .int .i64 k ∧ k ≤ n ∧ Hid (SlS wr p m c' (slA ((R.take k).filter fun u => decide (en now u ≤ t)) S) ∧ Below w.heap.size w wr)) (fun _ y _ => n - (intOf y).toNat)
  case atStart =>
    refine ⟨p, c', 0, rfl, rfl, Nat.zero_le _, ?_, H0.out.2⟩
    rw [List.take_zero, List.filter_nil, slA_nil]
    exact H0.out.1
  case round =>
    clear H0
    obtain ⟨p, c', k, rfl, rfl, hk, HB⟩ := hrel
    by_cases h0 : k = n
    · subst h0
      go_wp2_with fail
      go_ret
      refine ⟨p, c', rfl, ?_, HB.out.2⟩
      have h1 := HB.out.1
      rw [List.take_of_length_le (Nat.le_of_eq hn.out)] at h1
      exact h1
    · have hlt' : (k : Int) < (n : Int) := by omega
      have hd : decide ((k : Int) < (n : Int)) = true := decide_eq_true hlt'
      obtain ⟨u, hu⟩ : ∃ u, R[k]? = some u := ⟨R[k]'(by have := hn.out; omega), List.getElem?_eq_getElem _⟩
      obtain ⟨g, o, hqv, c0, c1, c2, c3⟩ := VA.at (hR.out.below HB.out.2) hu
      subst hqv
      by_cases hup : u.p ≤ t
      · have hup' : decide (u.p ≤ t) = true := decide_eq_true hup
        have HP : Hid (movR addR u.T u.N (slA ((R.take k).filter fun u => decide (en now u ≤ t)) S) = (0, slA ((R.take (k + 1)).filter fun u => decide (en now u ≤ t)) S)) := part_give hG.out hS.out (fun u => decide (en now u ≤ t)) hu (decide_eq_true (by unfold en; omega))
        have HO : Hid (u.ok w) := hO.out u (List.mem_of_getElem? hu)
        have H44 : Hid (∀ w1, Below wr.heap.size wr w1 → Calls Try.prog 44 #[.slice u.qT u.nT u.cT, .slice u.qN u.nN u.cN, .slice p m c', .bool true] w1 fun e w' => ∃ p c, e = .returned (.tuple #[.slice p m c, .int .i64 0]) ∧ Hid (SlS w' p m c (slA ((R.take (k + 1)).filter fun u => decide (en now u ≤ t)) S) ∧ Below w.heap.size w w') ∧ (w'.cell? ⟨g, o + k * 4 + 2, none⟩ = some (.slice u.qT u.nT u.cT) ∧ w'.cell? ⟨g, o + k * 4 + 3, none⟩ = some (.slice u.qN u.nN u.cN))) := fun w1 b => by
          have b6 := below_from HB.out.2 b HB.out.2.size
          refine (rmov_vi u _ p m c' w1 (HO.out.below b6) (HB.out.1.below b) (by omega)).mono ?_
          rintro e w' ⟨p, k', c, e1, h4⟩
          rw [HP.out] at e1 h4
          have h5 := h4.out.2 rfl
          have hk' : k' = m := by
            have h6 := h5.1.m
            have h7 := hs.out.m
            rw [slA_length] at h6
            omega
          subst hk'
          exact ⟨p, c, e1, ⟨h5.1, below_from b6 h4.out.1 b6.size⟩, cell_below c2 (below_from b h4.out.1 b.size), cell_below c3 (below_from b h4.out.1 b.size)⟩
        generalize u.p = up at *
        obtain ⟨uqT, huqT⟩ : ∃ x, u.qT = x := ⟨_, rfl⟩
        obtain ⟨unT, hunT⟩ : ∃ x, u.nT = x := ⟨_, rfl⟩
        obtain ⟨ucT, hucT⟩ : ∃ x, u.cT = x := ⟨_, rfl⟩
        obtain ⟨uqN, huqN⟩ : ∃ x, u.qN = x := ⟨_, rfl⟩
        obtain ⟨unN, hunN⟩ : ∃ x, u.nN = x := ⟨_, rfl⟩
        obtain ⟨ucN, hucN⟩ : ∃ x, u.cN = x := ⟨_, rfl⟩
        rw [huqT, hunT, hucT] at H44 c2
        rw [huqN, hunN, hucN] at H44 c3
        clear huqT hunT hucT huqN hunN hucN hu HP HO HB
        go_upto_region 6 with fail
        go_region_held3 (fun W : World => W.cell? ⟨g, o + k * 4 + 2, none⟩ = some (.slice uqT unT ucT) ∧ W.cell? ⟨g, o + k * 4 + 3, none⟩ = some (.slice uqN unN ucN)) (first | (with_reducible assumption) | (with_reducible exact z7) | (exact z7) | go_keep) (first | (go_at_call 44; refine (H44.out _ (by first | exact below_drewN (Below.refl _ _) 1 | exact below_drewN (Below.refl _ _) 0)).mono ?_; rintro e w7 ⟨p7, c7, rfl, h7, z7⟩))
        all_goals
          clear z7
          go_wp2_with fail
          exact ⟨⟨p7, c7, k + 1, rfl, by simp, by omega, h7.out⟩, by simp only [intOf]; omega⟩
      · have hup' : decide (u.p ≤ t) = false := decide_eq_false hup
        have hun : ¬ u.p ≤ now := by omega
        have hun' : decide (u.p ≤ now) = false := decide_eq_false hun
        have HP : Hid (SlS wr p m c' (slA ((R.take (k + 1)).filter fun u => decide (en now u ≤ t)) S) ∧ Below w.heap.size w wr) := by
          refine ⟨?_, HB.out.2⟩
          rw [part_skip (fun u => decide (en now u ≤ t)) hu (decide_eq_false (by unfold en; omega))]
          exact HB.out.1
        generalize u.p = up at *
        clear hu HB c0 c2 c3
        go_wp2_with fail
        exact ⟨⟨p, c', k + 1, rfl, by simp, by omega, HP.out⟩, by simp only [intOf]; omega⟩
/-- Start's errors but for no room -/
def wrongR (now : Int) (T : List V) (R : List Vi) (S : List Sl) : Nat := if wthn now R = false then 2 else if chk T S ≠ 0 then chk T S else (gvG R S).1
theorem wrong_start {now : Int} {T : List V} {R : List Vi} {S : List Sl} : (wrongR now T R S ≠ 0 → startR now T R S = (0, [], wrongR now T R S)) ∧ (wrongR now T R S = 0 → wthn now R = true ∧ chk T S = 0 ∧ (gvG R S).1 = 0 ∧ ((fitR T S).1 = 0 ∨ (fitR T S).1 = 6)) := by
  unfold wrongR
  by_cases hw : wthn now R = false
  · rw [if_pos hw]
    exact ⟨fun _ => startR_range hw, fun h => absurd h (by decide)⟩
  · rw [if_neg hw]
    have hw' : wthn now R = true := by simpa using hw
    by_cases hc : chk T S ≠ 0
    · rw [if_pos hc]
      have e : (fitR T S).1 = chk T S := by unfold fitR; rw [if_neg hc]
      have h6 : chk T S ≠ 6 := by
        unfold chk
        repeat' split
        all_goals exact nofun
      exact ⟨fun _ => by rw [startR_fit hw' (by rw [e]; omega), e], fun h => absurd h hc⟩
    · rw [if_neg hc]
      have hc' : chk T S = 0 := by omega
      exact ⟨fun h => startR_give hw' (fitR_two hc') h, fun h => ⟨hw', hc', h, fitR_two hc'⟩⟩
end Go.Proofs.Ytjgibngnjlciaaa

namespace Go.Proofs.Ytjgibngnjlciaaa
open Go.RowKit Go.Maps Go.WideMaps Go.Sort

/-- while all give back -/
def WrG (w wr : World) (R : List Vi) (S : List Sl) (p : Option Addr) (m c k : Nat) : Prop := ∃ S', gvG (R.take k) S = (0, S') ∧ SlS wr p m c S' ∧ Below w.heap.size w wr
set_option maxHeartbeats 4000000 in
set_option maxRecDepth 100000 in
theorem rwrong18 (now : Int) (T : List V) (R : List Vi) (S : List Sl) (qT q r : Option Addr) (nT cT n c m d : Nat) (w : World) (hT : Hid (TA w qT T ∧ T.length = nT ∧ nT ≤ 1000000)) (hR : Hid (VA w q R)) (hO : Hid (VOk w R)) (hn : Hid (R.length = n)) (hs : Hid (SlS w r m d S)) (n1 : n ≤ 1000000) (m1 : m ≤ 1000) :
    Calls Try.prog 23 #[.int .i64 now, .slice qT nT cT, .slice q n c, .slice r m d] w fun e w' => e = .returned (.int .i64 (wrongR now T R S : Nat)) ∧ Hid (Below w.heap.size w w') := by
  by_cases g1 : now < 0
  · have he : Hid (wrongR now T R S = 2) := by show _ = _; unfold wrongR; rw [if_pos (by unfold wthn; exact decide_eq_false (by omega))]
    go_enter Try.func23, Try.ntmps23
    go_wp2_with fail
    go_ret
    exact ⟨by rw [he.out]; rfl, Below.refl _ _⟩
  by_cases g2 : 1099511627776 ≤ now
  · have he : Hid (wrongR now T R S = 2) := by show _ = _; unfold wrongR; rw [if_pos (by unfold wthn; exact decide_eq_false (by omega))]
    go_enter Try.func23, Try.ntmps23
    go_wp2_with fail
    go_ret
    exact ⟨by rw [he.out]; rfl, Below.refl _ _⟩
  by_cases g3 : (100 : Int) < (n : Int)
  · have he : Hid (wrongR now T R S = 2) := by show _ = _; unfold wrongR; rw [if_pos (by unfold wthn; exact decide_eq_false (by have := hn.out; omega))]
    go_enter Try.func23, Try.ntmps23
    go_wp2_with fail
    go_ret
    exact ⟨by rw [he.out]; rfl, Below.refl _ _⟩
  have hn100 : n ≤ 100 := by omega
  obtain ⟨x, hx⟩ : ∃ x, chk T S = x := ⟨_, rfl⟩
  have H43 : Hid (∀ w1, Below w.heap.size w w1 → Calls Try.prog 43 #[.slice qT nT cT, .slice r m d] w1 fun e w' => e = .returned (.int .i64 (x : Nat)) ∧ Hid (Below w1.heap.size w1 w')) := fun w1 b => by
    have := wrong_any T S qT r nT cT m d w1 (hT.out.1.below b) (hs.out.below b).s hT.out.2.1 hs.out.m hT.out.2.2 (by omega)
    rwa [hx] at this
  have HE2 : Hid (R.any evil = true → wrongR now T R S = 2) := fun h => by unfold wrongR; rw [if_pos (by unfold wthn; exact decide_eq_false (by rw [h]; simp))]
  have HEx : Hid (R.any evil = false → x ≠ 0 → wrongR now T R S = x) := fun h h2 => by
    unfold wrongR
    rw [if_neg (by unfold wthn; rw [h, decide_eq_true (by have := hn.out; exact ⟨by omega, by omega, by omega, rfl⟩)]; decide), if_pos (by rw [hx]; exact h2), hx]
  have HEg : Hid (R.any evil = false → x = 0 → wrongR now T R S = (gvG R S).1) := fun h h2 => by
    unfold wrongR
    rw [if_neg (by unfold wthn; rw [h, decide_eq_true (by have := hn.out; exact ⟨by omega, by omega, by omega, rfl⟩)]; decide), if_neg (by rw [hx]; exact fun q => q h2)]
  clear hx
  go_enter Try.func23, Try.ntmps23
  go_wp2_with fail
  go_loopw [9] (fun y wr => ∃ k : Nat, y = .int .i64 k ∧ k ≤ n ∧ Hid ((R.take k).any evil = false ∧ Below w.heap.size w wr)) (fun y _ => n - (intOf y).toNat)
  case atStart => exact ⟨0, rfl, Nat.zero_le _, rfl, Below.refl _ _⟩
  case round =>
    obtain ⟨k, rfl, hk, HB⟩ := hrel
    by_cases h0 : k = n
    · subst h0
      have HN : Hid (R.any evil = false ∧ Below w.heap.size w wr) := by
        have h1 := HB.out.1
        rw [List.take_of_length_le (Nat.le_of_eq hn.out)] at h1
        exact ⟨h1, HB.out.2⟩
      clear HB hk
      by_cases hx0 : x = 0
      · subst hx0
        have HE : Hid (wrongR now T R S = (gvG R S).1) := HEg.out HN.out.1 rfl
        clear HEx HEg HE2
        go_wp2_with (go_at_call 43; refine (H43.out _ HN.out.2).mono ?_; rintro e w1 ⟨rfl, b1⟩; have B1 : Hid (Below w.heap.size w w1) := below_from HN.out.2 b1.out HN.out.2.size; clear H43 b1)
        go_loopw [11, 12] (fun x y wr => ∃ (p : Option Addr) (c' j : Nat), x = .slice p m c' ∧ y = .int .i64 j ∧ j ≤ k ∧ Hid (WrG w wr R S p m c' j)) (fun _ y _ => k - (intOf y).toNat)
        case atStart => exact ⟨r, d, 0, rfl, rfl, Nat.zero_le _, S, rfl, hs.out.below B1.out, B1.out⟩
        case round =>
          clear B1
          obtain ⟨p, c', j, rfl, rfl, hj, HJ⟩ := hrel
          by_cases hjk : j = k
          · subst hjk
            have HF : Hid (wrongR now T R S = 0 ∧ Below w.heap.size w wr) := by
              obtain ⟨S', h1, h2, h3⟩ := HJ.out
              rw [List.take_of_length_le (Nat.le_of_eq hn.out)] at h1
              exact ⟨by rw [HE.out, h1], h3⟩
            clear HJ hj
            go_wp2_with fail
            go_ret
            exact ⟨by rw [HF.out.1]; rfl, HF.out.2⟩
          · have hlt' : (j : Int) < (k : Int) := by omega
            have hd : decide ((j : Int) < (k : Int)) = true := decide_eq_true hlt'
            obtain ⟨u, hu⟩ : ∃ u, R[j]? = some u := ⟨R[j]'(by have := hn.out; omega), List.getElem?_eq_getElem _⟩
            obtain ⟨S', j1, j2, j3⟩ := HJ.out
            obtain ⟨g, o, hqv, c0, c1, c2, c3⟩ := VA.at (hR.out.below j3) hu
            subst hqv
            have hnx := gvG_next hu j1
            obtain ⟨y, hy⟩ : ∃ y, (movR addR u.T u.N S').1 = y := ⟨_, rfl⟩
            have HO : Hid (u.ok w) := hO.out u (List.mem_of_getElem? hu)
            have H44 : Hid (∀ w1, Below wr.heap.size wr w1 → Calls Try.prog 44 #[.slice u.qT u.nT u.cT, .slice u.qN u.nN u.cN, .slice p m c', .bool true] w1 fun e w' => ∃ p k c, e = .returned (.tuple #[.slice p k c, .int .i64 (y : Nat)]) ∧ (y = 0 → k = m) ∧ Hid ((y = 0 → WrG w w' R S p k c (j + 1)) ∧ Below w.heap.size w w') ∧ (w'.cell? ⟨g, o + j * 4 + 2, none⟩ = some (.slice u.qT u.nT u.cT) ∧ w'.cell? ⟨g, o + j * 4 + 3, none⟩ = some (.slice u.qN u.nN u.cN))) := fun w1 b => by
              have b6 := below_from j3 b j3.size
              refine (rmov_vi u S' p m c' w1 (HO.out.below b6) (j2.below b) (by omega)).mono ?_
              rintro e w' ⟨p, k', c, e1, h4⟩
              rw [hy] at e1 h4
              refine ⟨p, k', c, e1, fun h0 => ?_, ⟨fun h0 => ?_, below_from b6 h4.out.1 b6.size⟩, cell_below c2 (below_from b h4.out.1 b.size), cell_below c3 (below_from b h4.out.1 b.size)⟩
              · have h6 := (h4.out.2 h0).1.m
                have h7 := j2.m
                have h8 := movR_length (v := u) (S := S') (hy.trans h0)
                omega
              · rw [if_pos (hy.trans h0)] at hnx
                exact ⟨_, hnx, (h4.out.2 h0).1, below_from b6 h4.out.1 b6.size⟩
            have HY : Hid (y ≠ 0 → (gvG R S).1 = y) := fun h0 => by
              rw [if_neg (by rw [hy]; exact h0)] at hnx
              rw [hy] at hnx
              have := gvG_bad (L := R) (k := j + 1) (S := S) (by rw [hnx]; exact h0)
              rw [hnx] at this
              exact this
            obtain ⟨uqT, huqT⟩ : ∃ x, u.qT = x := ⟨_, rfl⟩
            obtain ⟨unT, hunT⟩ : ∃ x, u.nT = x := ⟨_, rfl⟩
            obtain ⟨ucT, hucT⟩ : ∃ x, u.cT = x := ⟨_, rfl⟩
            obtain ⟨uqN, huqN⟩ : ∃ x, u.qN = x := ⟨_, rfl⟩
            obtain ⟨unN, hunN⟩ : ∃ x, u.nN = x := ⟨_, rfl⟩
            obtain ⟨ucN, hucN⟩ : ∃ x, u.cN = x := ⟨_, rfl⟩
            rw [huqT, hunT, hucT] at H44 c2
            rw [huqN, hunN, hucN] at H44 c3
            clear huqT hunT hucT huqN hunN hucN hu hy hnx j1 j2 j3 HO HJ
            by_cases hy0 : y = 0
            · subst hy0
              go_upto_region 15 with fail
              go_region_held3 (fun W : World => W.cell? ⟨g, o + j * 4 + 2, none⟩ = some (.slice uqT unT ucT) ∧ W.cell? ⟨g, o + j * 4 + 3, none⟩ = some (.slice uqN unN ucN)) (first | (with_reducible assumption) | (with_reducible exact z7) | (exact z7) | go_keep) (first | (go_at_call 44; refine (H44.out _ (by first | exact below_drewN (Below.refl _ _) 1 | exact below_drewN (Below.refl _ _) 0)).mono ?_; rintro e w7 ⟨p7, k7, c7, rfl, hk7, h7, z7⟩; obtain rfl := hk7 rfl))
              all_goals
                clear z7
                go_wp2_with fail
                exact ⟨⟨p7, c7, j + 1, rfl, by simp, by omega, h7.out.1 (by simp)⟩, by simp only [intOf]; omega⟩
            · have y1 : ¬ (y : Int) = 0 := by omega
              have y2 : ((y : Int) == 0) = false := by simpa using y1
              have y3 : ((y : Int) != 0) = true := by simpa using y1
              have HF : Hid (wrongR now T R S = y) := HE.out.trans (HY.out hy0)
              go_upto_region 15 with fail
              go_region_held3 (fun W : World => W.cell? ⟨g, o + j * 4 + 2, none⟩ = some (.slice uqT unT ucT) ∧ W.cell? ⟨g, o + j * 4 + 3, none⟩ = some (.slice uqN unN ucN)) (first | (with_reducible assumption) | (with_reducible exact z7) | (exact z7) | go_keep) (first | (go_at_call 44; refine (H44.out _ (by first | exact below_drewN (Below.refl _ _) 1 | exact below_drewN (Below.refl _ _) 0)).mono ?_; rintro e w7 ⟨p7, k7, c7, rfl, hk7, h7, z7⟩))
              all_goals
                clear z7
                go_wp2_with fail
                go_ret
                exact ⟨by rw [HF.out]; rfl, h7.out.2⟩
      · have HE : Hid (wrongR now T R S = x) := HEx.out HN.out.1 hx0
        have y1 : ¬ (x : Int) = 0 := by omega
        have y2 : ((x : Int) == 0) = false := by simpa using y1
        have y3 : ((x : Int) != 0) = true := by simpa using y1
        go_wp2_with (go_at_call 43; refine (H43.out _ HN.out.2).mono ?_; rintro e w1 ⟨rfl, b1⟩)
        go_ret
        exact ⟨by rw [HE.out]; rfl, below_from HN.out.2 b1.out HN.out.2.size⟩
    · have hlt' : (k : Int) < (n : Int) := by omega
      have hd : decide ((k : Int) < (n : Int)) = true := decide_eq_true hlt'
      obtain ⟨u, hu⟩ : ∃ u, R[k]? = some u := ⟨R[k]'(by have := hn.out; omega), List.getElem?_eq_getElem _⟩
      obtain ⟨g, o, hqv, c0, c1, c2, c3⟩ := VA.at (hR.out.below HB.out.2) hu
      subst hqv
      have HU : Hid (R[k]? = some u) := hu
      have HV : Hid (evil u = decide (u.p < 0 ∨ 1099511627776 < u.p)) := (rfl : _ = _)
      clear hu c0 c2 c3
      obtain ⟨up, hup⟩ : ∃ up, u.p = up := ⟨_, rfl⟩
      rw [hup] at HV c1
      clear hup
      by_cases e1 : up < 0
      · have HE : Hid (wrongR now T R S = 2) := HE2.out (any_bad evil HU.out (by rw [HV.out]; exact decide_eq_true (.inl e1)))
        go_wp2_with fail
        go_ret
        exact ⟨by rw [HE.out]; rfl, HB.out.2⟩
      · by_cases e2 : 1099511627776 < up
        · have HE : Hid (wrongR now T R S = 2) := HE2.out (any_bad evil HU.out (by rw [HV.out]; exact decide_eq_true (.inr e2)))
          go_wp2_with fail
          go_ret
          exact ⟨by rw [HE.out]; rfl, HB.out.2⟩
        · have HE : Hid ((R.take (k + 1)).any evil = false) := none_take evil HU.out HB.out.1 (by rw [HV.out]; exact decide_eq_false (by omega))
          go_wp2_with fail
          exact ⟨⟨k + 1, by simp, by omega, HE.out, HB.out.2⟩, by simp only [intOf]; omega⟩
end Go.Proofs.Ytjgibngnjlciaaa

namespace Go.Proofs.Ytjgibngnjlciaaa
open Go.RowKit Go.Maps Go.WideMaps Go.Sort

/-- the best so far -/
def BsF (now : Int) (T : List V) (R : List Vi) (S : List Sl) (i : Nat) (best : Int) (N : List (List UInt8)) : Prop :=
  (best = -1 ∧ N = [] ∧ ∀ r ∈ R.take i, ¬ fitT now T R S (en now r)) ∨ (0 ≤ best ∧ (∃ r ∈ R, en now r = best) ∧ fitT now T R S best ∧ (∀ r ∈ R.take i, fitT now T R S (en now r) → best ≤ en now r) ∧ N = (fitR T (stA now R S best)).2)
theorem BsF.start (now : Int) (T : List V) (R : List Vi) (S : List Sl) : BsF now T R S 0 (-1) [] := .inl ⟨rfl, rfl, fun r hr => by simp at hr⟩
section
variable {now : Int} {T : List V} {R : List Vi} {S : List Sl} {i : Nat} {best : Int} {N : List (List UInt8)} {v : Vi}
theorem BsF.no (h : BsF now T R S i best N) (hv : R[i]? = some v) (hf : ¬ fitT now T R S (en now v)) : BsF now T R S (i + 1) best N := by
  have hm : ∀ r ∈ R.take (i + 1), fitT now T R S (en now r) → r ∈ R.take i := fun r hr hfr => by
    rw [take_next hv] at hr
    rcases List.mem_append.1 hr with q | q
    · exact q
    · rw [List.mem_singleton.1 q] at hfr
      exact absurd hfr hf
  rcases h with ⟨a, b, c⟩ | ⟨a, b, c, d, e⟩
  · exact .inl ⟨a, b, fun r hr hfr => c r (hm r hr hfr) hfr⟩
  · exact .inr ⟨a, b, c, fun r hr hfr => d r (hm r hr hfr) hfr, e⟩
theorem BsF.yes (h0 : 0 ≤ now) (h : BsF now T R S i best N) (hv : R[i]? = some v) (hf : fitT now T R S (en now v)) (hb : best < 0 ∨ en now v < best) : BsF now T R S (i + 1) (en now v) (fitR T (stA now R S (en now v))).2 := by
  have hpos := en_gt now v
  refine .inr ⟨by omega, ⟨v, List.mem_of_getElem? hv, rfl⟩, hf, fun r hr hfr => ?_, rfl⟩
  rw [take_next hv] at hr
  rcases List.mem_append.1 hr with q | q
  · rcases h with ⟨a, b, c⟩ | ⟨a, b, c, d, e⟩
    · exact absurd hfr (c r q)
    · have := d r q hfr
      omega
  · rw [List.mem_singleton.1 q]; exact Int.le_refl _
theorem BsF.keep (h : BsF now T R S i best N) (hv : R[i]? = some v) (hb : ¬ (best < 0 ∨ en now v < best)) : BsF now T R S (i + 1) best N := by
  rcases h with ⟨a, b, c⟩ | ⟨a, b, c, d, e⟩
  · omega
  · refine .inr ⟨a, b, c, fun r hr hfr => ?_, e⟩
    rw [take_next hv] at hr
    rcases List.mem_append.1 hr with q | q
    · exact d r q hfr
    · rw [List.mem_singleton.1 q]; omega
theorem BsF.done (h : BsF now T R S R.length best N) (hw : wthn now R = true) (hf : (fitR T S).1 = 0 ∨ (fitR T S).1 = 6) (hg : (gvG R S).1 = 0) (hn : (fitR T S).1 ≠ 0) : startR now T R S = if best < 0 then (0, [], 6) else (best, N, 0) := by
  have hnow : ¬ fitT now T R S now := by unfold fitT; rw [stA_now]; exact hn
  rcases h with ⟨a, b, c⟩ | ⟨a, b, c, d, e⟩
  · rw [if_pos (by omega)]
    refine startR_none hw hf hg (staN_none.2 fun u hu => ?_)
    rcases cand_mem.1 hu with rfl | ⟨r, hr, rfl⟩
    · exact hnow
    · exact c r (by rw [List.take_of_length_le (Nat.le_refl _)]; exact hr)
  · rw [if_neg (by omega)]
    have : staN now T R S = some best := staN_some.2 ⟨cand_mem.2 (.inr b), c, fun u hu hfu => by
      rcases cand_mem.1 hu with rfl | ⟨r, hr, rfl⟩
      · exact absurd hfu hnow
      · exact d r (by rw [List.take_of_length_le (Nat.le_refl _)]; exact hr) hfu⟩
    rw [startR_some hw hf hg this, e]
end
theorem start_now {now : Int} {T : List V} {R : List Vi} {S : List Sl} (hw : wthn now R = true) (hg : (gvG R S).1 = 0) (hn : (fitR T S).1 = 0) : startR now T R S = (now, (fitR T S).2, 0) := by
  have : staN now T R S = some now := staN_some.2 ⟨cand_mem.2 (.inl rfl), by unfold fitT; rw [stA_now]; exact hn, fun u hu _ => cand_le hu⟩
  rw [startR_some hw (.inl hn) hg this, stA_now]
set_option maxHeartbeats 4000000 in
set_option maxRecDepth 100000 in
theorem rstart_any (now : Int) (qT q r : Option Addr) (nT cT n c m d : Nat) (T : List V) (R : List Vi) (S : List Sl) (w : World) (h : StG w qT nT cT q n r m d T R S) : Calls Try.prog 10 #[.int .i64 now, .slice qT nT cT, .slice q n c, .slice r m d] w (StP w now T R S) := by
  have HG : Hid (StG w qT nT cT q n r m d T R S) := h
  obtain ⟨x, hx⟩ : ∃ x, wrongR now T R S = x := ⟨_, rfl⟩
  have H23 : Hid (Calls Try.prog 23 #[.int .i64 now, .slice qT nT cT, .slice q n c, .slice r m d] w fun e w' => e = .returned (.int .i64 (x : Nat)) ∧ Hid (Below w.heap.size w w')) := by
    have := rwrong18 now T R S qT q r nT cT n c m d w ⟨h.t, h.lt, h.n1⟩ h.v h.o h.lr h.s h.n2 h.n3
    rwa [hx] at this
  clear h
  by_cases hx0 : x = 0
  · subst hx0
    obtain ⟨hw, hc, hg, hf⟩ := wrong_start.2 hx
    obtain ⟨y, hy⟩ : ∃ y, (fitR T S).1 = y := ⟨_, rfl⟩
    obtain ⟨M, hM⟩ : ∃ M, (fitR T S).2 = M := ⟨_, rfl⟩
    have H24 : Hid (∀ w1, Below w.heap.size w w1 → Calls Try.prog 24 #[.slice qT nT cT, .slice r m d] w1 fun e w' => ∃ p k c, e = .returned (.tuple #[.slice p k c, .int .i64 (y : Nat)]) ∧ M.length = k ∧ (p = none → c = 0) ∧ Hid (NA w' p M ∧ Below w1.heap.size w1 w')) := fun w1 b => by
      have g := HG.out.below b
      refine (rfit_any T S qT r nT cT m d w1 g.t g.s.s g.s.h g.s.d g.lt g.s.m g.n1 (by have := g.n3; omega)).mono ?_
      rintro e w' ⟨p, k, c, e1, e2, e3, e4⟩
      rw [hy] at e1; rw [hM] at e2 e4
      exact ⟨p, k, c, e1, e2, e3, e4⟩
    have hS := fit_chk hf
    have HB0 : Hid (wthn now R = true ∧ (gvG R S).1 = 0 ∧ ((fitR T S).1 = 0 ∨ (fitR T S).1 = 6) ∧ Gv R S ∧ allS S = true) := ⟨hw, hg, hf, all_give R S hS.2.1 hg, hS.2.1⟩
    obtain ⟨wa, wb, wc, wd⟩ := wthn_true hw
    have hn100 : n ≤ 100 := by have := HG.out.lr; omega
    have HY : Hid ((fitR T S).1 = y ∧ (fitR T S).2 = M) := ⟨hy, hM⟩
    clear hw hc hg hf hx hS wc wd hy hM
    by_cases hy0 : y = 0
    · subst hy0
      have HS : Hid (startR now T R S = (now, M, 0)) := by
        have := start_now HB0.out.1 HB0.out.2.1 HY.out.1
        rw [HY.out.2] at this
        exact this
      go_enter Try.func10, Try.ntmps10
      go_wp2_with (first
        | (go_at_call 23; refine H23.out.mono ?_; rintro e w1 ⟨rfl, b1⟩; clear H23)
        | (go_at_call 24; refine (H24.out _ b1.out).mono ?_; rintro e w2 ⟨p, k, c2, rfl, h1, h2, h3⟩; clear H24))
      go_ret3
      refine ⟨p, k, c2, by rw [HS.out]; rfl, by rw [HS.out]; exact h1, h2, ?_, below_from b1.out h3.out.2 b1.out.size⟩
      rw [HS.out]
      exact h3.out.1
    · have y1 : ¬ (y : Int) = 0 := by omega
      have y2 : ((y : Int) == 0) = false := by simpa using y1
      go_enter Try.func10, Try.ntmps10
      go_wp2_with (first
        | (go_at_call 23; refine H23.out.mono ?_; rintro e w1 ⟨rfl, b1⟩; clear H23)
        | (go_at_call 24; refine (H24.out _ b1.out).mono ?_; rintro e w2 ⟨p, k, c2, rfl, h1, h2, h3⟩; clear H24; have B2 : Hid (Below w.heap.size w w2) := below_from b1.out h3.out.2 b1.out.size; clear h1 h2 h3 b1))
      go_loopw [14, 15, 16] (fun x y z wr => ∃ (best : Int) (p : Option Addr) (k c i : Nat), x = .int .i64 best ∧ y = .slice p k c ∧ z = .int .i64 i ∧ i ≤ n ∧ Hid (∃ N : List (List UInt8), BsF now T R S i best N ∧ N.length = k ∧ (p = none → c = 0) ∧ NA wr p N ∧ Below w.heap.size w wr)) (fun _ _ z _ => n - (intOf z).toNat)
      case atStart => exact ⟨-1, none, 0, 0, 0, rfl, rfl, rfl, Nat.zero_le _, [], BsF.start _ _ _ _, rfl, fun _ => rfl, fun i a hi => by simp at hi, B2.out⟩
      case round =>
        clear B2
        obtain ⟨best, p, k, c3, i, rfl, rfl, rfl, hi, HB⟩ := hrel
        by_cases hin : i = n
        · subst hin
          obtain ⟨N, n1, n2, n3, n4, n5⟩ := HB.out
          have hd := BsF.done (by rw [HG.out.lr]; exact n1) HB0.out.1 HB0.out.2.2.1 HB0.out.2.1 (by rw [HY.out.1]; exact hy0)
          by_cases hb : best < 0
          · rw [if_pos hb] at hd
            have HS : Hid (startR now T R S = (0, [], 6) ∧ Below w.heap.size w wr) := ⟨hd, n5⟩
            clear hd n1 n2 n3 n4 n5 HB hi
            go_wp2_with fail
            go_ret3
            exact st_no HS.out.1 HS.out.2
          · rw [if_neg hb] at hd
            have HS : Hid (startR now T R S = (best, N, 0) ∧ N.length = k ∧ (p = none → c3 = 0) ∧ NA wr p N ∧ Below w.heap.size w wr) := ⟨hd, n2, n3, n4, n5⟩
            clear hd n1 n2 n3 n4 n5 HB hi
            go_wp2_with fail
            go_ret3
            obtain ⟨s1, s2, s3, s4, s5⟩ := HS.out
            exact ⟨p, k, c3, by rw [s1]; rfl, by rw [s1]; exact s2, s3, by rw [s1]; exact s4, s5⟩
        · have hlt' : (i : Int) < (n : Int) := by omega
          have hd : decide ((i : Int) < (n : Int)) = true := decide_eq_true hlt'
          obtain ⟨u, hu⟩ : ∃ u, R[i]? = some u := ⟨R[i]'(by have := HG.out.lr; omega), List.getElem?_eq_getElem _⟩
          have hbw : Below w.heap.size w wr := by obtain ⟨N, _, _, _, _, n5⟩ := HB.out; exact n5
          obtain ⟨g, o, hqv, c0, c1, c2', c4⟩ := VA.at (HG.out.v.below hbw) hu
          subst hqv
          obtain ⟨E, hE⟩ : ∃ E, max u.p (now + 1) = E := ⟨_, rfl⟩
          have hEv : en now u = E := hE
          have HE : Hid (en now u = E ∧ R[i]? = some u ∧ now < E) := ⟨hEv, hu, by rw [← hEv]; exact en_gt now u⟩
          obtain ⟨f, hff⟩ : ∃ f, (fitR T (stA now R S E)).1 = f := ⟨_, rfl⟩
          obtain ⟨M2, hM2⟩ : ∃ M, (fitR T (stA now R S E)).2 = M := ⟨_, rfl⟩
          have H25 : Hid (Calls Try.prog 25 #[.int .i64 now, .int .i64 E, .slice (some ⟨g, o, none⟩) n c, .slice r m d] wr (RAt wr m (stA now R S E))) := rat_any now E R S (some ⟨g, o, none⟩) r n c m d wr (HG.out.v.below hbw) (HG.out.o.below hbw) HG.out.lr (HG.out.s.below hbw) HG.out.n2 HG.out.n3 HB0.out.2.2.2.1 HB0.out.2.2.2.2 HE.out.2.2
          have H24' : Hid (∀ w1 p c', Below w.heap.size w w1 → SlS w1 p m c' (stA now R S E) → Calls Try.prog 24 #[.slice qT nT cT, .slice p m c'] w1 fun e w' => ∃ p k c, e = .returned (.tuple #[.slice p k c, .int .i64 (f : Nat)]) ∧ M2.length = k ∧ (p = none → c = 0) ∧ Hid (NA w' p M2 ∧ Below w1.heap.size w1 w')) := fun w1 p c' b hs => by
            have g := HG.out.below b
            refine (rfit_any T (stA now R S E) qT p nT cT m c' w1 g.t hs.s hs.h hs.d g.lt hs.m g.n1 (by have := g.n3; omega)).mono ?_
            rintro e w' ⟨p, k, c, e1, e2, e3, e4⟩
            rw [hff] at e1; rw [hM2] at e2 e4
            exact ⟨p, k, c, e1, e2, e3, e4⟩
          have HF : Hid ((fitR T (stA now R S E)).1 = f ∧ (fitR T (stA now R S E)).2 = M2) := ⟨hff, hM2⟩
          have HW : Hid (Below w.heap.size w wr) := hbw
          obtain ⟨up, hup⟩ : ∃ up, u.p = up := ⟨_, rfl⟩
          rw [hup] at hE c1
          clear hu hEv hff hM2 hbw hup c0 c2' c4
          by_cases hf0 : f = 0
          · subst hf0
            by_cases hb : best < 0
            · have HN : Hid (BsF now T R S (i + 1) E M2) := by
                obtain ⟨N, n1, _⟩ := HB.out
                have := BsF.yes (by omega) n1 HE.out.2.1 (by unfold fitT; rw [HE.out.1]; exact HF.out.1) (.inl hb)
                rw [HE.out.1, HF.out.2] at this
                exact this
              clear HB
              go_wp2_with (first
                | (go_at_call 25; refine H25.out.mono ?_; rintro e w3 ⟨p3, c3', rfl, h3⟩; clear H25)
                | (go_at_call 24; refine (H24'.out _ _ _ (below_from HW.out h3.out.2 HW.out.size) h3.out.1).mono ?_; rintro e w4 ⟨p4, k4, c4, rfl, h4, h5, h6⟩; clear H24'))
              exact ⟨⟨E, p4, k4, c4, i + 1, rfl, rfl, by simp, by omega, M2, HN.out, h4, h5, h6.out.1, below_from (below_from HW.out h3.out.2 HW.out.size) h6.out.2 (Nat.le_trans HW.out.size h3.out.2.size)⟩, by simp only [intOf]; omega⟩
            · by_cases hEb : E < best
              · have HN : Hid (BsF now T R S (i + 1) E M2) := by
                  obtain ⟨N, n1, _⟩ := HB.out
                  have := BsF.yes (by omega) n1 HE.out.2.1 (by unfold fitT; rw [HE.out.1]; exact HF.out.1) (.inr (by rw [HE.out.1]; exact hEb))
                  rw [HE.out.1, HF.out.2] at this
                  exact this
                clear HB
                go_wp2_with (first
                  | (go_at_call 25; refine H25.out.mono ?_; rintro e w3 ⟨p3, c3', rfl, h3⟩; clear H25)
                  | (go_at_call 24; refine (H24'.out _ _ _ (below_from HW.out h3.out.2 HW.out.size) h3.out.1).mono ?_; rintro e w4 ⟨p4, k4, c4, rfl, h4, h5, h6⟩; clear H24'))
                exact ⟨⟨E, p4, k4, c4, i + 1, rfl, rfl, by simp, by omega, M2, HN.out, h4, h5, h6.out.1, below_from (below_from HW.out h3.out.2 HW.out.size) h6.out.2 (Nat.le_trans HW.out.size h3.out.2.size)⟩, by simp only [intOf]; omega⟩
              · have HN : Hid (∀ N, BsF now T R S i best N → BsF now T R S (i + 1) best N) := fun N n1 => n1.keep HE.out.2.1 (by rw [HE.out.1]; omega)
                go_wp2_with (first
                  | (go_at_call 25; refine H25.out.mono ?_; rintro e w3 ⟨p3, c3', rfl, h3⟩; clear H25)
                  | (go_at_call 24; refine (H24'.out _ _ _ (below_from HW.out h3.out.2 HW.out.size) h3.out.1).mono ?_; rintro e w4 ⟨p4, k4, c4, rfl, h4, h5, h6⟩; clear H24'))
                refine ⟨⟨best, p, k, c3, i + 1, rfl, rfl, by simp, by omega, ?_⟩, by simp only [intOf]; omega⟩
                obtain ⟨N, n1, n2, n3, n4, n5⟩ := HB.out
                have b7 := below_from h3.out.2 h6.out.2 h3.out.2.size
                exact ⟨N, HN.out N n1, n2, n3, n4.below b7, below_from n5 b7 n5.size⟩
          · have f1 : ¬ (f : Int) = 0 := by omega
            have f2 : ((f : Int) == 0) = false := by simpa using f1
            have HN : Hid (∀ N, BsF now T R S i best N → BsF now T R S (i + 1) best N) := fun N n1 => n1.no HE.out.2.1 (by unfold fitT; rw [HE.out.1, HF.out.1]; exact hf0)
            go_wp2_with (first
              | (go_at_call 25; refine H25.out.mono ?_; rintro e w3 ⟨p3, c3', rfl, h3⟩; clear H25)
              | (go_at_call 24; refine (H24'.out _ _ _ (below_from HW.out h3.out.2 HW.out.size) h3.out.1).mono ?_; rintro e w4 ⟨p4, k4, c4, rfl, h4, h5, h6⟩; clear H24'))
            refine ⟨⟨best, p, k, c3, i + 1, rfl, rfl, by simp, by omega, ?_⟩, by simp only [intOf]; omega⟩
            obtain ⟨N, n1, n2, n3, n4, n5⟩ := HB.out
            have b7 := below_from h3.out.2 h6.out.2 h3.out.2.size
            exact ⟨N, HN.out N n1, n2, n3, n4.below b7, below_from n5 b7 n5.size⟩
  · have y1 : ¬ (x : Int) = 0 := by omega
    have y2 : ((x : Int) == 0) = false := by simpa using y1
    have y3 : ((x : Int) != 0) = true := by simpa using y1
    have HS : Hid (startR now T R S = (0, [], x)) := by have := wrong_start.1 (by rw [hx]; exact hx0); rw [hx] at this; exact this
    go_enter Try.func10, Try.ntmps10
    go_wp2_with (go_at_call 23; refine H23.out.mono ?_; rintro e w1 ⟨rfl, b1⟩)
    go_ret3
    exact st_no HS.out b1.out
end Go.Proofs.Ytjgibngnjlciaaa
