/-
  The comparing of texts; the law's step: the other kinds of calls.
-/
import Derived.Test.YtnohidalomjfmaaLm
import Derived.Test.YtnohidalomjfmaaSta
import Derived.Test.YtnohidalomjfmaaStb
import Derived.Test.YtnohidalomjfmaaStd
import Derived.Test.YtnohidalomjfmaaSte
namespace Go.Proofs.Ytnohidalomjfmaa
open Go.RowKit Go.Maps
open Go.Sort hiding Below

set_option maxHeartbeats 1000000 in
theorem sameT_some (L : List (List UInt8)) (g g' c d n : Nat) (w : World) (hL : Hid (L.length = n)) (hn : n < 1152921504606846976) (hr : Hid (RowV w g 0 (L.map encStr))) (hr' : Hid (RowV w g' 0 (L.map encStr))) :
    Calls Try.prog 33 #[.slice (some ⟨g, 0, none⟩) n c, .slice (some ⟨g', 0, none⟩) n d] w fun e w' => e = .returned (.bool true) ∧ Below w.heap.size w w' := by
  go_enter Try.func33, Try.ntmps33
  go_wp2_with fail
  go_loopw [5] (fun i wr => ∃ k : Nat, k ≤ n ∧ i = .int .i64 k ∧ Below w.heap.size w wr) (fun i _ => n - (intOf i).toNat)
  case atStart => exact ⟨0, Nat.zero_le _, rfl, Below.refl _ _⟩
  case round =>
    obtain ⟨k, hk, rfl, hb⟩ := hrel
    have HB : Hid (Below w.heap.size w wr) := hb
    clear hb
    by_cases hlt : k < n
    · obtain ⟨x, hx⟩ : ∃ x, L[k]? = some x := ⟨L[k]'(by have := hL.out; omega), List.getElem?_eq_getElem _⟩
      have hxe : (L.map encStr)[k]? = some (.string ⟨⟨x⟩⟩) := by rw [List.getElem?_map, hx]; rfl
      have h0 := hr.out.keep HB.out (Nat.le_refl _) k _ hxe
      have h1 := hr'.out.keep HB.out (Nat.le_refl _) k _ hxe
      rw [Nat.zero_add] at h0 h1
      have hi : (k : Int) < (n : Int) := by omega
      clear hx hxe
      go_wp2_with fail
      go_quiet (fail)
      go_wp2_with fail
      refine ⟨⟨k + 1, by omega, by go_num, below_drewN HB.out _⟩, ?_⟩
      simp [intOf]; omega
    · go_wp2_with fail
      go_ret
      exact ⟨rfl, HB.out⟩
set_option maxHeartbeats 400000 in
theorem sameT_none (a b : Option Addr) (c d : Nat) (w : World) :
    Calls Try.prog 33 #[.slice a 0 c, .slice b 0 d] w fun e w' => e = .returned (.bool true) ∧ w' = w := by
  go_enter Try.func33, Try.ntmps33
  go_wp2_with fail
  go_rounds 1
  go_ret
  exact ⟨rfl, rfl⟩
theorem rows_own {w : World} {B : Nat} {v : Value} {L : List (List UInt8)} (h : OwnS w B v L) : (v = .slice none 0 0 ∧ L = []) ∨ ∃ g c, v = .slice (some ⟨g, 0, none⟩) L.length c ∧ RowV w g 0 (L.map encStr) := by
  unfold OwnS at h
  rcases h.2 with ⟨rfl, h0⟩ | ⟨g, cap, cur, rfl, hb, hgg, h1, h2, h3, h4⟩
  · exact .inl ⟨rfl, List.eq_nil_of_length_eq_zero h0⟩
  · refine .inr ⟨g, cap, rfl, fun k u hu => ?_⟩
    have := World.ownsRow.cells h (g := g) rfl k _ hu
    rwa [Addr.add_lit] at this
theorem OwnS.keep {w w1 : World} {B : Nat} {v : Value} {L : List (List UInt8)} (h : OwnS w B v L) (b : Below w.heap.size w w1) : OwnS w1 B v L :=
  ownsKeep h fun g hg => b.block g (World.ownsRow.lt h g hg).2
theorem sameT {w : World} {B B' : Nat} {v v' : Value} {L : List (List UInt8)} (h : OwnS w B v L) (h' : OwnS w B' v' L) (hn : L.length < 1152921504606846976) :
    Calls Try.prog 33 #[v, v'] w fun e w' => e = .returned (.bool true) ∧ Below w.heap.size w w' := by
  rcases rows_own h with ⟨rfl, rfl⟩ | ⟨g, c, rfl, hr⟩
  · rcases rows_own h' with ⟨rfl, _⟩ | ⟨g', c', rfl, hr'⟩
    · refine (sameT_none _ _ _ _ w).mono ?_
      rintro e w' ⟨rfl, rfl⟩
      exact ⟨rfl, Below.refl _ _⟩
    · refine (sameT_none _ _ _ _ w).mono ?_
      rintro e w' ⟨rfl, rfl⟩
      exact ⟨rfl, Below.refl _ _⟩
  · rcases rows_own h' with ⟨rfl, rfl⟩ | ⟨g', c', rfl, hr'⟩
    · refine (sameT_none _ _ _ _ w).mono ?_
      rintro e w' ⟨rfl, rfl⟩
      exact ⟨rfl, Below.refl _ _⟩
    · exact sameT_some L g g' c c' L.length w rfl hn hr hr'
theorem list_len {w : World} {tg : Nat → Tg} {pb : Nat} {D : DK} (h : Ref w tg pb D) : (listD D).length ≤ 64 := by
  obtain ⟨v, l, z, h⟩ := h
  unfold listD
  split
  · exact Nat.zero_le _
  · rw [List.length_map, h.fs, List.length_map]; exact h.len
theorem read_len {w : World} {tg : Nat → Tg} {pb : Nat} {D : DK} (h : Ref w tg pb D) (s : List UInt8) : (readD D s).2.length ≤ 1048576 := by
  obtain ⟨v, l, z, h⟩ := h
  unfold readD
  split
  · exact Nat.zero_le _
  · rw [h.fs, fnd_map]
    cases hf : fnd RF.nm s l with
    | none => exact Nat.zero_le _
    | some f => exact (h.fl f (fnd_some hf).1).hl
theorem Mid.keep {w0 w1 w2 : World} {pb rb gb : Nat} {D E : DK} {tg rt : Nat → Tg} {kd n : Int} {s t : List UInt8} {q0 : Option Addr} {m0 c0 : Nat} {q : Option Addr} {c : Nat} {mb : List UInt8} (h : Mid w0 w1 pb rb gb D E tg rt kd n s t q0 m0 c0 q c mb) (b : Below w1.heap.size w1 w2) : Mid w0 w2 pb rb gb D E tg rt kd n s t q0 m0 c0 q c mb :=
  ⟨h.two.keep b, at_below b (Nat.le_refl _) h.box, h.n1, h.n2, h.l1.step (Step.of_below _ b), h.l2.step (Step.of_below _ b), h.hq, h.cap⟩
end Go.Proofs.Ytnohidalomjfmaa
