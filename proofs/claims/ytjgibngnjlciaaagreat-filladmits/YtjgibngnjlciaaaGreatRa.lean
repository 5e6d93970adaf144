/-
  The laws' plain; the document's Find, Wrong, Copy, Same.
-/
import Derived.Test.YtjgibngnjlciaaaGreatPg
import Derived.Deep.RegionLaw
import Derived.Deep.AppendLies
import Derived.BigRegion
namespace Go.Proofs.YtjgibngnjlciaaaGreat
open Go.RowKit Go.Maps Go.WideMaps Go.Sort

theorem rr_add {w wr w4 : World} {p : Option Addr} {k c g cap : Nat} {L : List Sl} {e : Sl} {xs : List Value} {o : Obj} (hL : L[k]? = some e) (hB : Below w.heap.size w wr) (hO : RR w.heap.size wr (.slice p k c) (L.take k)) (ho : w4.ownsRow w.heap.size 55 5 (.slice (some ⟨g, 0, none⟩) (k + 1) cap) (k + 1) (xs ++ slC e)) (hx : xs = (L.take k).flatMap slC) (hg : ((wr.alloc o).drew).grownBy w4 (Value.slice p k c).ownBlock) : RR w.heap.size w4 (.slice (some ⟨g, 0, none⟩) (k + 1) cap) (L.take (k + 1)) ∧ Below w.heap.size w w4 := by
  have hk := (List.getElem?_eq_some_iff.1 hL).1
  have hsz : w.heap.size ≤ ((wr.alloc o).drew).heap.size := by have := hB.size; simp; omega
  refine ⟨?_, ((hB.alloc hB.size _).drew).trans (below_grown hg hsz fun g e => hO.ge e)⟩
  unfold RR GRow
  rw [List.take_add_one, hL, List.length_append, List.length_take, Nat.min_eq_left (by omega), List.flatMap_append]
  rw [hx] at ho
  simpa using ho
/-! ### the document's Find -/
def fndI (s : List UInt8) (S : List Sl) : Int := match plc s S with
  | none => -1
  | some i => i
theorem plc_at {s : List UInt8} {S : List Sl} {k : Nat} {x : Sl} (hx : S[k]? = some x) (e : x.nm = s) (hb : ∀ i y, i < k → S[i]? = some y → y.nm ≠ s) : plc s S = some k := by
  unfold plc
  obtain ⟨hk, rfl⟩ := List.getElem?_eq_some_iff.1 hx
  rw [List.findIdx?_eq_some_iff_getElem]
  exact ⟨hk, by simpa using e, fun j hj => by have := hb j _ hj (List.getElem?_eq_getElem (by omega)); simpa using this⟩
theorem plc_no {s : List UInt8} {S : List Sl} (hb : ∀ (i : Nat) y, S[i]? = some y → y.nm ≠ s) : plc s S = none := by
  unfold plc
  rw [List.findIdx?_eq_none_iff]
  intro x hx
  obtain ⟨i, hi⟩ := List.mem_iff_getElem?.1 hx
  simpa using hb i x hi
set_option maxHeartbeats 1000000 in
set_option maxRecDepth 100000 in
theorem find_any (w : World) (r : Option Addr) (m d : Nat) (S : List Sl) (s : List UInt8) (hS : Hid (SA w r S)) (hm : Hid (S.length = m)) (m1 : m ≤ 1000000) :
    Calls Tryz.prog 37 #[.slice r m d, .string ⟨⟨s⟩⟩] w fun e w' => e = .returned (.int .i64 (fndI s S)) ∧ Hid (Below w.heap.size w w') := by
  go_enter Tryz.func37, Tryz.ntmps37
  go_wp2_with fail
  go_loopw [5] (fun x wr => ∃ k : Nat, x = .int .i64 k ∧ k ≤ m ∧ Hid ((∀ i y, i < k → S[i]? = some y → y.nm ≠ s) ∧ Below w.heap.size w wr)) (fun x _ => m - (intOf x).toNat)
  case atStart => exact ⟨0, rfl, Nat.zero_le _, (fun i x hi => absurd hi (by omega)), Below.refl _ _⟩
  case round =>
    obtain ⟨k, rfl, hk, HI⟩ := hrel
    by_cases h0 : k < m
    · have hlt' : (k : Int) < (m : Int) := by omega
      have hd : decide ((k : Int) < (m : Int)) = true := decide_eq_true hlt'
      obtain ⟨x, hx⟩ : ∃ x, S[k]? = some x := ⟨S[k]'(by have := hm.out; omega), List.getElem?_eq_getElem _⟩
      obtain ⟨g, o, rfl, c0, -⟩ := SA.at (hS.out.below HI.out.2) hx
      have HX : Hid (S[k]? = some x) := hx
      clear hx
      obtain ⟨xn, xv⟩ := x
      simp only [] at c0
      by_cases e : xn = s
      · subst e
        go_wp2_with fail
        go_ret
        exact ⟨by unfold fndI; rw [plc_at HX.out rfl HI.out.1]; rfl, HI.out.2⟩
      · have e1 : (xn == s) = false := by simpa using e
        have HE : Hid (xn ≠ s) := e
        go_wp2_with fail
        refine ⟨⟨k + 1, by simp, by omega, (fun i y hi hy => ?_), HI.out.2⟩, by simp only [intOf]; omega⟩
        by_cases q : i < k
        · exact HI.out.1 i y q hy
        · obtain rfl : i = k := by omega
          rw [HX.out] at hy
          cases hy
          exact HE.out
    · have hlt' : ¬ (k : Int) < (m : Int) := by omega
      have hd : decide ((k : Int) < (m : Int)) = false := decide_eq_false hlt'
      go_wp2_with fail
      go_ret
      exact ⟨by unfold fndI; rw [plc_no fun i y hy => HI.out.1 i y (by have := (List.getElem?_eq_some_iff.1 hy).1; have := hm.out; omega) hy]; rfl, HI.out.2⟩
set_option maxHeartbeats 400000 in
theorem copy_any (w : World) (q : Option Addr) (n c : Nat) (S : List Sl) (hS : SA w q S) (hn : S.length = n) (hq : q = none → c = 0) (n1 : n ≤ 1000000) :
    Calls Tryz.prog 33 #[.slice q n c] w fun e w' => ∃ p c', e = .returned (.slice p n c') ∧ Hid (RR w.heap.size w' (.slice p n c') S ∧ Below w.heap.size w w') := by
  have HL : Hid (SA w q S ∧ S.length = n ∧ (q = none → c = 0)) := ⟨hS, hn, hq⟩
  clear hS hn hq
  have e9 : Hid (0 + n ≤ maxLen) := by show _ ≤ _; unfold maxLen; omega
  have e8 : Hid ((0 + n) * 48 ≤ 140737488355328) := by show _ ≤ _; omega
  go_enter Tryz.func33, Tryz.ntmps33
  go_wp2_with (at_builtin; refine append_ga (B := w.heap.size) slC_len slC_one Tryz.underlying36 info62 rfl (by decide) rfl _ _ rfl none 0 0 [] rfl (GRow.nil _ _ _ _ _) (Nat.le_refl _) q n c S rfl HL.out.2.1 HL.out.1 HL.out.2.2 e9.out e8.out ?_; intro p3 c3 w3 hr3 hb3)
  go_ret
  rw [Nat.zero_add] at hr3
  exact ⟨p3, c3, by simp, hr3, hb3⟩
set_option maxHeartbeats 2000000 in
set_option maxRecDepth 100000 in
theorem same_any (w : World) (n c1' c2' : Nat) (q1 q2 : Option Addr) (L : List (List UInt8)) (h1 : Hid (NA w q1 L)) (h2 : Hid (NA w q2 L)) (hl : Hid (L.length = n)) (hn : n ≤ 1000000) :
    Calls Tryz.prog 10 #[.slice q1 n c1', .slice q2 n c2'] w fun e w' => e = .returned (.bool true) ∧ Hid (Below w.heap.size w w') := by
  go_enter Tryz.func10, Tryz.ntmps10
  go_wp2_with fail
  go_loopw [5] (fun x wr => ∃ k : Nat, x = .int .i64 k ∧ k ≤ n ∧ Hid (Below w.heap.size w wr)) (fun x _ => n - (intOf x).toNat)
  case atStart => exact ⟨0, rfl, Nat.zero_le _, Below.refl _ _⟩
  case round =>
    obtain ⟨k, rfl, hk, HB⟩ := hrel
    by_cases h0 : k = n
    · subst h0
      go_wp2_with fail
      go_ret
      exact ⟨rfl, HB⟩
    · have hlt' : (k : Int) < (n : Int) := by omega
      obtain ⟨a, ha⟩ : ∃ a, L[k]? = some a := ⟨L[k]'(by have := hl.out; omega), List.getElem?_eq_getElem _⟩
      obtain ⟨g1, o1, rfl, l1⟩ := NA.at (h1.out.below HB.out) ha
      obtain ⟨g2, o2, rfl, l2⟩ := NA.at (h2.out.below HB.out) ha
      have HD : Hid (∀ i, Below w.heap.size w (wr.drewN i)) := fun i => below_from HB.out (below_drewN (Below.refl _ wr) i) HB.out.size
      clear ha h1 h2
      go_wp2_with fail
      go_region
      all_goals go_wp2_with fail
      all_goals exact ⟨⟨k + 1, by simp, by omega, HD.out _⟩, by simp only [intOf]; omega⟩
end Go.Proofs.YtjgibngnjlciaaaGreat
