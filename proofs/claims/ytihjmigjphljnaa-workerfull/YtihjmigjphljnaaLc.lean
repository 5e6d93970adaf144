/-
  WorkerHeard's law.
-/
import Derived.Test.YtihjmigjphljnaaLa
namespace Go.Proofs.Ytihjmigjphljnaa
open Go.RowKit Go.Maps Go.WideMaps
open Tk

def nH (x : Int) : Nd := ⟨nA, 1, ⟨1, 0, 0, 0⟩, x, true⟩
theorem ll_live {w0 w : World} {X : Nat → Option Obj} {pb : Nat} {D : List Nd} (h : LL w0 w X pb D) :
    Calls Try.prog 14 #[.pointer (some ⟨pb, 0, none⟩)] w fun e w' => ∃ q c', e = .returned (.slice q (D.filter Nd.lv).length c') ∧ Hid (LL w0 w' X pb D ∧ VR w' q (D.filter Nd.lv)) := by
  obtain ⟨S, h1, h2⟩ := h.led
  refine (live_any h1).mono ?_
  rintro e w' ⟨q, m, c', he, hh⟩
  obtain ⟨rfl, h3, h4, -⟩ := hh.out
  exact ⟨q, c', he, h.below h4, h3⟩
theorem ll_all {w0 w : World} {X : Nat → Option Obj} {pb : Nat} {D : List Nd} (h : LL w0 w X pb D) :
    Calls Try.prog 13 #[.pointer (some ⟨pb, 0, none⟩)] w fun e w' => ∃ q c', e = .returned (.slice q D.length c') ∧ Hid (LL w0 w' X pb D ∧ VR w' q D) := by
  obtain ⟨S, h1, h2⟩ := h.led
  refine (all_any h1).mono ?_
  rintro e w' ⟨q, c', he, hh⟩
  exact ⟨q, c', he, h.below hh.out.2.1, hh.out.1.vr⟩
theorem exp_lost {x t : Int} (h : x + 10 ≤ t) : expN [nH x] t = [nH x] ∧ expR [nH x] t = [(nH x).off] := by
  have e : (nH x).lost t = true := by unfold Nd.lost nH; simp [h]
  constructor
  · unfold expN; rw [List.filter_cons_of_pos e]; rfl
  · unfold expR Nd.exp; simp [e]
theorem exp_stays {x t : Int} (h : t < x + 10) : expN [nH x] t = [] ∧ expR [nH x] t = [nH x] := by
  have e : (nH x).lost t = false := by unfold Nd.lost nH; simp; omega
  constructor
  · unfold expN; rw [List.filter_cons_of_neg (by simp [e])]; rfl
  · unfold expR Nd.exp; simp [e]
set_option maxHeartbeats 8000000 in
set_option maxRecDepth 100000 in
theorem heard_law (q : Option Addr) (n c : Nat) (L : List Nat) (y : Nat) (w : World) (hn : n = L.length) (hr : ∀ (i : Nat) (b : Nat), L[i]? = some b → b < 256 ∧ ∃ g a, q = some ⟨g, a, none⟩ ∧ w.cell? ⟨g, a + i, none⟩ = some (.int .u8 b)) (h63 : n ≤ 9223372036854775807) (hy : y < 4294967296) :
    Calls Try.prog 5 #[.slice q n c, .int .u32 y] w fun e w' => e = .returned (.bool true) ∧ Below w.heap.size w w' := by
  have HA : Hid (∀ W, Calls Try.prog 9 #[] W fun e w' => e = .returned (.bool true) ∧ Hid (Below W.heap.size W w')) := awake_any
  by_cases h300 : 300 < n
  · have h3 : (300 : Int) < (n : Int) := by omega
    clear hr hn
    go_enter Try.func5, Try.ntmps5
    go_upto_region 2 with (go_at_call 9; refine (HA.out _).mono ?_; rintro e w1 ⟨rfl, b1⟩)
    have HB : Hid (Calls Try.prog 9 #[] w1 fun e w' => e = .returned (.bool true) ∧ Hid (Below w.heap.size w w')) := (HA.out w1).mono fun e w' ⟨h1, h2⟩ => ⟨h1, b1.out.trans (h2.out.mono b1.out.size)⟩
    clear HA b1
    go_wp2_with (go_at_call 9; refine HB.out.mono ?_; rintro e w2 ⟨rfl, b2⟩)
    go_ret
    exact ⟨rfl, b2.out⟩
  have h3 : (n : Int) ≤ 300 := by omega
  have hn300 : n ≤ 300 := by omega
  have HR : Hid ((∀ (i : Nat) (b : Nat), L[i]? = some b → b < 256 ∧ ∃ g a, q = some ⟨g, a, none⟩ ∧ w.cell? ⟨g, a + i, none⟩ = some (.int .u8 b)) ∧ n = L.length) := ⟨hr, hn⟩
  have B1 : IntKind.i64.wrap (y : Int) = (y : Int) := by rw [IntKind.wrap_i64]; omega
  have hy2 : (y : Int) < 4294967296 := by omega
  clear hr hn h300 h63
  have C1 : Hid (∀ W tb, LL w W NX tb [] → Calls Try.prog 18 #[.pointer (some ⟨tb, 0, none⟩), .string ⟨#[97]⟩, .int .i64 1, .agg #[.int .i64 1, .int .i64 0, .int .i64 0, .int .i64 0], .int .i64 (y : Int)] W fun e w' => e = .returned (.tuple #[.bool false, .int .i64 0]) ∧ Hid (LL w w' NX tb [nH y])) := fun W tb h => by
    have := ll_reg h nA (by decide) 1 y ⟨1, 0, 0, 0⟩
    rw [reg_empty name_A (by decide) ⟨⟨by decide, by decide⟩, by omega, by omega⟩] at this
    exact this
  have E1 : Hid (∀ W tb x t, LL w W NX tb [nH x] → t < x + 10 → Calls Try.prog 20 #[.pointer (some ⟨tb, 0, none⟩), .int .i64 t] W fun e w' => ∃ p c', e = .returned (.slice p 0 c') ∧ Hid (LL w w' NX tb [nH x])) := fun W tb x t h hl => by
    have := ll_exp h t
    rw [(exp_stays hl).1, (exp_stays hl).2] at this
    exact this.mono fun e w' ⟨p, c', h1, h2⟩ => ⟨p, c', h1, h2.out.1⟩
  have E2 : Hid (∀ W tb x t, LL w W NX tb [nH x] → x + 10 ≤ t → Calls Try.prog 20 #[.pointer (some ⟨tb, 0, none⟩), .int .i64 t] W fun e w' => ∃ p c', e = .returned (.slice p 1 c') ∧ Hid (LL w w' NX tb [(nH x).off])) := fun W tb x t h hl => by
    have := ll_exp h t
    rw [(exp_lost hl).1, (exp_lost hl).2] at this
    exact this.mono fun e w' ⟨p, c', h1, h2⟩ => ⟨p, c', h1, h2.out.1⟩
  have F1 : Hid (∀ W tb x t, LL w W NX tb [nH x] → x ≤ t → t ≤ 1099511627776 → Calls Try.prog 19 #[.pointer (some ⟨tb, 0, none⟩), .string ⟨#[97]⟩, .int .i64 1, .int .i64 t] W fun e w' => e = .returned (.int .i64 0) ∧ Hid (LL w w' NX tb [nH t])) := fun W tb x t h h1 h2 => by
    have := ll_beat h nA (by decide) 1 t
    unfold beatR at this
    rw [fnd_one (show (nH x).k = nA.data.toList from rfl)] at this
    simp only at this
    rw [if_pos ⟨rfl, rfl⟩, if_pos ⟨h1, h2⟩, put_one (n := nH x) (x := { nH x with sn := t }) rfl] at this
    exact this
  have F2 : Hid (∀ W tb x t, LL w W NX tb [(nH x).off] → Calls Try.prog 19 #[.pointer (some ⟨tb, 0, none⟩), .string ⟨#[97]⟩, .int .i64 1, .int .i64 t] W fun e w' => e = .returned (.int .i64 14) ∧ Hid (LL w w' NX tb [(nH x).off])) := fun W tb x t h => by
    have := ll_beat h nA (by decide) 1 t
    unfold beatR at this
    rw [fnd_one (show (nH x).off.k = nA.data.toList from rfl)] at this
    simp only at this
    rw [if_neg (by rintro ⟨-, q⟩; cases q)] at this
    exact this
  have G1 : Hid (∀ W tb x, LL w W NX tb [(nH x).off] → Calls Try.prog 21 #[.pointer (some ⟨tb, 0, none⟩), .string ⟨#[97]⟩] W fun e w' => e = .returned (.tuple #[.agg #[.string ⟨#[97]⟩, .int .i64 1, .int .i64 1, .int .i64 0, .int .i64 0, .int .i64 0, .int .i64 x, .bool false], .int .i64 0]) ∧ Hid (LL w w' NX tb [(nH x).off])) := fun W tb x h => by
    have := ll_get h nA (by decide)
    unfold getR at this
    rw [fnd_one (show (nH x).off.k = nA.data.toList from rfl)] at this
    exact this
  have V1 : Hid (∀ W tb x, LL w W NX tb [(nH x).off] → Calls Try.prog 14 #[.pointer (some ⟨tb, 0, none⟩)] W fun e w' => ∃ p c', e = .returned (.slice p 0 c') ∧ Hid (LL w w' NX tb [(nH x).off])) := fun W tb x h => (ll_live h).mono fun e w' ⟨p, c', h1, h2⟩ => ⟨p, c', h1, h2.out.1⟩
  have V2 : Hid (∀ W tb x, LL w W NX tb [nH x] → Calls Try.prog 14 #[.pointer (some ⟨tb, 0, none⟩)] W fun e w' => ∃ p c', e = .returned (.slice p 1 c') ∧ Hid (LL w w' NX tb [nH x])) := fun W tb x h => (ll_live h).mono fun e w' ⟨p, c', h1, h2⟩ => ⟨p, c', h1, h2.out.1⟩
  have V3 : Hid (∀ W tb x, LL w W NX tb [(nH x).off] → Calls Try.prog 13 #[.pointer (some ⟨tb, 0, none⟩)] W fun e w' => ∃ p c', e = .returned (.slice p 1 c') ∧ Hid (LL w w' NX tb [(nH x).off])) := fun W tb x h => (ll_all h).mono fun e w' ⟨p, c', h1, h2⟩ => ⟨p, c', h1, h2.out.1⟩
  have HY2 : Hid ((y : Int) < 4294967296) := hy2
  clear hy hy2
  have h5 : decide ((300 : Int) < (n : Int)) = false := decide_eq_false (by omega)
  go_enter Try.func5, Try.ntmps5
  go_upto_region 3 with (go_at_call 9; refine (HA.out _).mono ?_; rintro e w1 ⟨rfl, b1⟩)
  clear HA
  go_upto_region 5 with (go_at_call 10; refine (new_any _).mono ?_; rintro e w2 ⟨rfl, rfl⟩)
  have L0 : Hid (LL w (w1.alloc (.cells #[.map none, .slice none 0 0, .map none] 63 (0, 0))) NX w1.heap.size []) := ll_new b1.out (kept_none w1)
  clear b1
  generalize w1.alloc (.cells #[.map none, .slice none 0 0, .map none] 63) = W2 at *
  generalize w1.heap.size = tb at *
  go_upto_region 9 with (go_at_call 18; refine (C1.out _ _ L0.out).mono ?_; rintro e w3 ⟨rfl, L1⟩; clear C1 L0)
  go_loopw [6, 9] (fun t6 t9 wr => ∃ (i : Nat) (x : Int), i ≤ n ∧ t6 = .int .i64 x ∧ t9 = .int .i64 (i : Nat) ∧ Hid (0 ≤ x ∧ x ≤ 4294967296 + 11 * (i : Int)) ∧ Hid (LL w wr NX tb [nH x])) (fun _ t9 _ => n - (intOf t9).toNat)
  case atStart => exact ⟨0, y, Nat.zero_le _, rfl, rfl, ⟨by omega, by have := HY2.out; omega⟩, L1.out⟩
  case round =>
    obtain ⟨i, x, hi, rfl, rfl, HXX, HI⟩ := hrel
    clear L1
    by_cases hlt : i < n
    · obtain ⟨b, hb⟩ : ∃ b, L[i]? = some b := ⟨L[i]'(by have := HR.out.2; omega), List.getElem?_eq_getElem _⟩
      obtain ⟨hb256, g, a, rfl, hcell⟩ := HR.out.1 i b hb
      have hc2 : wr.cell? ⟨g, a + i, none⟩ = some (.int .u8 b) := cell_below hcell HI.out.bel
      obtain ⟨m, hm⟩ : ∃ m : Nat, m = b % 12 := ⟨_, rfl⟩
      have m1 : (b : Int).tmod 12 = (m : Int) := by rw [Int.tmod_eq_emod_of_nonneg (by omega)]; omega
      have m2 : (b : Int) % 12 = (m : Int) := by omega
      have m3 : IntKind.i64.wrap (m : Int) = (m : Int) := by rw [IntKind.wrap_i64]; omega
      have m4 : IntKind.u8.wrap (m : Int) = (m : Int) := by rw [IntKind.wrap_u8]; omega
      have m5 : IntKind.i64.wrap (x + (m : Int)) = x + (m : Int) := by have := HXX.out; rw [IntKind.wrap_i64]; omega
      have hm12 : (m : Int) < 12 := by omega
      have hii : (i : Int) < (n : Int) := by omega
      clear hb hcell hb256 hm
      by_cases hge : 10 ≤ m
      · have g1 : (10 : Int) ≤ (m : Int) := by omega
        have g2 : decide ((10 : Int) ≤ (m : Int)) = true := decide_eq_true g1
        have X1 := E2.out wr tb x (x + m) HI.out (by omega)
        clear E1 E2 F1 V2 HI
        go_upto_region 15 with (go_at_call 20; refine X1.mono ?_; rintro e w4 ⟨p, c', rfl, L4⟩)
        clear X1 hc2
        go_upto_region 17 with (go_at_call 19; refine (F2.out _ _ _ _ L4.out).mono ?_; rintro e w5 ⟨rfl, L5⟩)
        go_upto_region 18 with (go_at_call 21; refine (G1.out _ _ _ L5.out).mono ?_; rintro e w6 ⟨rfl, L6⟩)
        have b6 : Below w6.heap.size w6 (w6.alloc (.cells #[.string ⟨#[97]⟩, .int .i64 1, .int .i64 1, .int .i64 0, .int .i64 0, .int .i64 0, .int .i64 x, .bool false] 46)) := (Below.refl _ _).alloc (Nat.le_refl _) _
        have L7 : Hid _ := L6.out.below b6
        have z7 : (w6.alloc (.cells #[.string ⟨#[97]⟩, .int .i64 1, .int .i64 1, .int .i64 0, .int .i64 0, .int .i64 0, .int .i64 x, .bool false] 46)).cell? ⟨w6.heap.size, 7, none⟩ = some (.bool false) := by rw [cell_of new0]; rfl
        clear L4 L5 L6 b6
        generalize (w6.alloc (.cells #[.string ⟨#[97]⟩, .int .i64 1, .int .i64 1, .int .i64 0, .int .i64 0, .int .i64 0, .int .i64 x, .bool false] 46)) = W7 at *
        go_wp2_with (first | (go_at_call 14; refine (V1.out _ _ _ L7.out).mono ?_; rintro e w8 ⟨p2, c2, rfl, L8⟩) | (go_at_call 13; refine (V3.out _ _ _ L8.out).mono ?_; rintro e w9 ⟨p3, c3, rfl, L9⟩))
        go_ret
        exact ⟨rfl, L9.out.bel⟩
      · have g1 : (m : Int) < 10 := by omega
        have g2 : decide ((10 : Int) ≤ (m : Int)) = false := decide_eq_false (by omega)
        have X1 := E1.out wr tb x (x + m) HI.out (by omega)
        have X2 : Hid (∀ W, LL w W NX tb [nH x] → Calls Try.prog 19 #[.pointer (some ⟨tb, 0, none⟩), .string ⟨#[97]⟩, .int .i64 1, .int .i64 (x + m)] W fun e w' => e = .returned (.int .i64 0) ∧ Hid (LL w w' NX tb [nH (x + m)])) := fun W h => F1.out W tb x (x + m) h (by omega) (by have := HXX.out; omega)
        have HX : Hid (0 ≤ x + (m : Int) ∧ x + (m : Int) ≤ 4294967296 + 11 * ((i + 1 : Nat) : Int)) := by have := HXX.out; exact ⟨by omega, by omega⟩
        clear E1 E2 F1 F2 V1 V2 V3 G1 HI
        go_upto_region 15 with (go_at_call 20; refine X1.mono ?_; rintro e w4 ⟨p, c', rfl, L4⟩)
        clear X1 hc2
        go_wp2_with (go_at_call 19; refine (X2.out _ L4.out).mono ?_; rintro e w5 ⟨rfl, L5⟩)
        exact ⟨⟨i + 1, x + m, by omega, rfl, by simp, HX.out, L5.out⟩, by simp [intOf]; omega⟩
    · obtain rfl : i = n := by omega
      have hii : ¬ (i : Int) < (i : Int) := by omega
      have X1 := V2.out wr tb x HI.out
      clear E1 E2 F1 F2 V1 V2 V3 G1 HI
      go_wp2_with (go_at_call 14; refine X1.mono ?_; rintro e w8 ⟨p2, c2, rfl, L8⟩)
      go_ret
      exact ⟨rfl, L8.out.bel⟩
end Go.Proofs.Ytihjmigjphljnaa
