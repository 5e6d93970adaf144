/-
  DagPlays' law.
-/
import Derived.Test.YtodldfgoieikcaaSb
import Derived.Test.YtodldfgoieikcaaSc
namespace Go.Proofs.Ytodldfgoieikcaa
open Go.RowKit Go.Maps

theorem st_any {w0 w : World} {bs gb rb : Nat} (h : Bi w0 w bs gb rb) (o : Opr) (hn : o.n = o.ps.length) (hE : AI w0 o.p o.ps) (h9 : o.n ≤ 300) : StP w0 w bs gb rb o.kd o.id o.p o.n o.c := by
  by_cases k1 : o.kd = 1
  · rw [k1]; exact st_add h _ _ _ _ o.ps hn hE h9
  by_cases k2 : o.kd = 2
  · rw [k2]; exact st_par h _ _ _ _
  by_cases k3 : o.kd = 3
  · rw [k3]; exact st_free h _ _ _ _
  by_cases k4 : o.kd = 4
  · rw [k4]; exact st_done h _ _ _ _
  by_cases k5 : o.kd = 5
  · rw [k5]; exact st_fail h _ _ _ _
  exact st_else h _ _ _ _ _ ⟨k1, k2, k3, k4, k5⟩
set_option maxHeartbeats 4000000 in
set_option maxRecDepth 100000 in
theorem plays_law (q : Option Addr) (n c : Nat) (L : List Opr) (w : World) (hn : n = L.length) (hq : Scr w q L) (h9 : n ≤ 9223372036854775807) :
    Calls Try.prog 3 #[.slice q n c] w fun e w' => e = .returned (.bool true) ∧ Below w.heap.size w w' := by
  have HA : Hid (∀ W, Below w.heap.size w W → Calls Try.prog 9 #[] W fun e w' => e = .returned (.bool true) ∧ Hid (Below w.heap.size w w')) := fun W b => awake_any w W b
  have HA0 : Hid (Calls Try.prog 9 #[] w fun e w' => e = .returned (.bool true) ∧ Hid (Below w.heap.size w w')) := HA.out w (Below.refl _ _)
  have HF : Hid (∀ W, Below w.heap.size w W → Calls Try.prog 10 #[.slice q n c] W fun e w' => e = .returned (.bool (fewB L)) ∧ w' = W) := fun W b => few_any W q n c L hn (hq.below b) h9
  have HS : Hid (n = L.length ∧ Scr w q L) := ⟨hn, hq⟩
  clear hn hq
  go_enter Try.func3, Try.ntmps3
  cases hf : fewB L
  · go_upto_region 2 with (first
      | (go_at_call 9; refine HA0.out.mono ?_; rintro e w1 ⟨rfl, b1⟩)
      | (go_at_call 10; refine (HF.out _ b1.out).mono ?_; rintro e w2 ⟨rfl, rfl⟩; rw [hf]))
    go_wp2_with (go_at_call 9; refine (HA.out _ b1.out).mono ?_; rintro e w3 ⟨rfl, b3⟩)
    go_ret
    exact ⟨rfl, b3.out⟩
  obtain ⟨hl, hps⟩ := few_yes hf
  have hn1 : n ≤ 150 := by have := HS.out.1; omega
  have HPS : Hid (∀ o ∈ L, o.n ≤ 300) := hps
  have HN : Hid (∀ W, Below w.heap.size w W → Calls Try.prog 11 #[] W fun e w' => e = .returned (.pointer (some ⟨W.heap.size, 0, none⟩)) ∧ Hid (PG w w' W.heap.size g0 ∧ w'.heap.size = W.heap.size + 1)) := fun W b => pg_new w W b
  clear hl hps HA
  go_upto_region 4 with (first
      | (go_at_call 9; refine HA0.out.mono ?_; rintro e w1 ⟨rfl, b1⟩)
      | (go_at_call 10; refine (HF.out _ b1.out).mono ?_; rintro e w2 ⟨rfl, rfl⟩; rw [hf])
      | (go_at_call 11; refine (HN.out _ b1.out).mono ?_; rintro e w3 ⟨rfl, h3⟩))
  clear HA0 HF HN hf
  go_upto_region 5 with fail
  have HB : Hid (Bi w (w3.alloc (.cells #[.slice none 0 0] 30)) w3.heap.size w2.heap.size w3.heap.size) := by
    have hP := h3.out.1
    have hb : Below w3.heap.size w3 (w3.alloc (.cells #[.slice none 0 0] 30)) := (Below.refl _ _).alloc (Nat.le_refl _) _
    exact ⟨g0, .slice none 0 0, [], ⟨hP.gr.grow hb, rm_zero new0, rel_zero, hP.bl.trans (hb.mono hP.bl.size), hP.nb, hP.bl.size, hP.bl.size, hb.size⟩, inv_zero⟩
  generalize w3.alloc (.cells #[.slice none 0 0] 30) = W4 at *
  clear h3 b1
  generalize w2.heap.size = gb at *
  generalize w3.heap.size = rb at *
  go_wp2_with fail
  go_loopw [5] (fun t5 wr => ∃ i : Nat, t5 = .int .i64 i ∧ i ≤ n ∧ Hid (Bi w wr rb gb rb)) (fun t5 _ => n - (intOf t5).toNat)
  case atStart => exact ⟨0, rfl, Nat.zero_le _, HB.out⟩
  case round =>
    clear HB
    obtain ⟨i, rfl, hin, HB⟩ := hrel
    by_cases hi : i < n
    · have hi' : (i : Int) < (n : Int) := by omega
      obtain ⟨o, ho⟩ : ∃ o, L[i]? = some o := ⟨_, List.getElem?_eq_getElem (by have := HS.out.1; omega)⟩
      have hbl : Below w.heap.size w wr := by obtain ⟨_, _, _, h, _⟩ := HB.out; exact h.bl
      obtain ⟨⟨g, f, rfl, s0, s1, s2⟩, k1, k2, -⟩ := HS.out.2 i o ho
      replace s0 := cell_below s0 hbl
      replace s1 := cell_below s1 hbl
      replace s2 := cell_below s2 hbl
      have H12 : Hid (Calls Try.prog 12 #[.pointer (some ⟨gb, 0, none⟩), .pointer (some ⟨rb, 0, none⟩), .agg #[.int .i64 o.kd, .int .i64 o.id, .slice o.p o.n o.c]] wr fun e w' => e = .returned (.bool true) ∧ Hid (Bi w w' rb gb rb)) := st_any HB.out o k1 k2 (HPS.out o (List.mem_of_getElem? ho))
      clear ho HB hbl k1 k2
      go_wp2_with (go_at_call 12; refine H12.out.mono ?_; rintro e w5 ⟨rfl, h5⟩)
      refine ⟨⟨i + 1, by simp, by omega, h5.out⟩, ?_⟩
      simp [intOf]
      omega
    · have hi' : ¬ (i : Int) < (n : Int) := by omega
      go_wp2_with fail
      go_loopw [6] (fun t6 wr => ∃ i : Nat, t6 = .int .i64 i ∧ i ≤ 102 ∧ Hid (Bi w wr rb gb rb)) (fun t6 _ => 102 - (intOf t6).toNat)
      case atStart => exact ⟨0, rfl, Nat.zero_le _, HB.out⟩
      case round =>
        clear HB
        obtain ⟨i, rfl, hin, HB⟩ := hrel
        by_cases hi : i ≤ 101
        · have hi' : (i : Int) ≤ 101 := by omega
          obtain ⟨g, v, R, hB, hI⟩ := HB.out
          have H13 : Hid (Calls Try.prog 13 #[.pointer (some ⟨gb, 0, none⟩), .int .i64 i] wr fun e w' => e = .returned (.bool (freeB g i)) ∧ w' = wr) := free_any hB.gr i
          have H14 : Hid (Calls Try.prog 14 #[.pointer (some ⟨rb, 0, none⟩), .int .i64 i] wr fun e w' => e = .returned (.bool (freeB g i)) ∧ w' = wr) := rfree_any hB.rm hB.rl i
          generalize freeB g (i : Int) = bt at *
          clear hB hI
          go_wp2_with (first
            | (go_at_call 13; refine H13.out.mono ?_; rintro e w5 ⟨rfl, rfl⟩)
            | (go_at_call 14; refine H14.out.mono ?_; rintro e w5 ⟨rfl, rfl⟩))
          refine ⟨⟨i + 1, by simp, by omega, HB.out⟩, ?_⟩
          simp [intOf]
          omega
        · have hi' : ¬ (i : Int) ≤ 101 := by omega
          have HX : Hid (Below w.heap.size w wr) := by obtain ⟨_, _, _, h, _⟩ := HB.out; exact h.bl
          clear HB
          go_wp2_with fail
          go_ret
          exact ⟨rfl, HX.out⟩
end Go.Proofs.Ytodldfgoieikcaa
