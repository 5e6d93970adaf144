/-
  TimerPlays' law.
-/
import Derived.Test.YtnjnfbfjmeofaaaSb
namespace Go.Proofs.Ytnjnfbfjmeofaaa
open Go.RowKit Go.Maps Go.WideMaps

/-- an operation of the script -/
structure Opr where
  kd : Int
  nm : ByteArray
  x : Int
def Opr.cs (o : Opr) : List Value := [.int .i64 o.kd, .string o.nm, .int .i64 o.x]
def Scr (w : World) (q : Option Addr) (L : List Opr) : Prop := ∀ i o, L[i]? = some o → ∃ g f, q = some ⟨g, f, none⟩ ∧ w.cell? ⟨g, f + i * 3, none⟩ = some (.int .i64 o.kd) ∧ w.cell? ⟨g, f + i * 3 + 1, none⟩ = some (.string o.nm) ∧ w.cell? ⟨g, f + i * 3 + 2, none⟩ = some (.int .i64 o.x)
abbrev rcB : Obj := .cells #[.slice none 0 0] 29 (0, 0)
theorem bb_new {w w1 : World} {cb : Nat} (h : LL w w1 cb NX []) : BB w (w1.alloc rcB) cb w1.heap.size NX [] [] := by
  obtain ⟨S, h⟩ := h
  have b : Below w1.heap.size w1 (w1.alloc rcB) := (Below.refl _ w1).alloc (Nat.le_refl _) _
  have h1 := h.below b
  refine ⟨S, .slice none 0 0, h1.k, ⟨new0, .inl ⟨rfl, rfl⟩⟩, h1.b, h1.f, fun j q => ?_, fun j q q' => ?_, fun j o q => by cases q⟩
  · rcases q with rfl | q
    · exact h.b.size
    · cases q
  · rcases q' with rfl | q'
    · exact Nat.lt_irrefl _ (h.k.c.m.lt _ q)
    · cases q'
set_option maxHeartbeats 4000000 in
set_option maxRecDepth 100000 in
theorem plays_law (q : Option Addr) (n c : Nat) (L : List Opr) (w : World) (hq : Scr w q L) (hn : L.length = n) (hs : ∀ o ∈ L, o.nm.size ≤ 281474976710656) (hn9 : n ≤ 9223372036854775807) :
    Calls Try.prog 3 #[.slice q n c] w fun e w' => e = .returned (.bool true) ∧ Below w.heap.size w w' := by
  have HA : Hid (∀ W, Below w.heap.size w W → Calls Try.prog 9 #[] W fun e w' => e = .returned (.bool true) ∧ Hid (Below w.heap.size w w')) := fun W b => awake_any w W b
  have HA0 : Hid (Calls Try.prog 9 #[] w fun e w' => e = .returned (.bool true) ∧ Hid (Below w.heap.size w w')) := HA.out w (Below.refl _ _)
  go_enter Try.func3, Try.ntmps3
  by_cases h2 : 1000 < n
  · have h2' : decide ((1000 : Int) < (n : Int)) = true := decide_eq_true (by omega)
    clear h2 hn hn9
    go_upto_region 2 with (go_at_call 9; refine HA0.out.mono ?_; rintro e w1 ⟨rfl, b1⟩)
    go_wp2_with (go_at_call 9; refine (HA.out _ b1.out).mono ?_; rintro e w2 ⟨rfl, b2⟩)
    go_ret
    exact ⟨rfl, b2.out⟩
  have h2' : decide ((1000 : Int) < (n : Int)) = false := decide_eq_false (by omega)
  have h2'' : (n : Int) ≤ 1000 := by omega
  have HNW : Hid (∀ W, Below w.heap.size w W → Calls Try.prog 10 #[] W fun e w' => e = .returned (.pointer (some ⟨W.heap.size, 0, none⟩)) ∧ Hid (LL w w' W.heap.size NX [])) := fun W b => (l_new w W b).mono fun e w' h => ⟨h.1, h.2.1⟩
  have HNN : Hid (L.length = n ∧ Scr w q L ∧ ∀ o ∈ L, o.nm.size ≤ 281474976710656) := ⟨hn, hq, hs⟩
  clear h2 hn hn9 hq hs
  go_upto_region 5 with (first | (go_at_call 9; refine HA0.out.mono ?_; rintro e w1 ⟨rfl, b1⟩) | (go_at_call 10; refine (HNW.out _ b1.out).mono ?_; rintro e w2 ⟨rfl, h2⟩))
  have HB0 : Hid (BB w (w2.alloc rcB) w1.heap.size w2.heap.size NX [] []) := bb_new h2.out
  clear h2 HNW HA HA0 b1
  generalize w1.heap.size = cb at *
  generalize w2.alloc rcB = W2 at *
  generalize w2.heap.size = rb at *
  go_wp2_with fail
  go_loopw [5] (fun t wr => ∃ k : Nat, t = .int .i64 k ∧ Hid (k ≤ n ∧ ∃ R, BB w wr cb rb NX R R)) (fun t _ => n - (intOf t).toNat)
  case atStart => exact ⟨0, rfl, Nat.zero_le _, [], HB0.out⟩
  case round =>
    clear HB0
    obtain ⟨k, rfl, HK⟩ := hrel
    by_cases hk : k < n
    · have hk' : (k : Int) < (n : Int) := by omega
      obtain ⟨R, hR⟩ := HK.out.2
      obtain ⟨o, ho⟩ : ∃ o, L[k]? = some o := ⟨L[k]'(by have := HNN.out.1; omega), List.getElem?_eq_getElem _⟩
      obtain ⟨g, f, eq1, c0, c1, c2⟩ := HNN.out.2.1 k o ho
      have hsz := HNN.out.2.2 o (List.mem_of_getElem? ho)
      have HC : Hid (∀ W, Below w.heap.size w W → W.cell? ⟨g, f + k * 3, none⟩ = some (.int .i64 o.kd) ∧ W.cell? ⟨g, f + k * 3 + 1, none⟩ = some (.string o.nm) ∧ W.cell? ⟨g, f + k * 3 + 2, none⟩ = some (.int .i64 o.x)) := fun W b => ⟨cell_below c0 b, cell_below c1 b, cell_below c2 b⟩
      have zz := HC.out wr hR.bel
      have H11 : Hid (Calls Try.prog 11 #[pV cb, pV rb, .agg #[.int .i64 o.kd, .string o.nm, .int .i64 o.x]] wr.drew fun e w' => e = .returned (.bool true) ∧ (w'.cell? ⟨g, f + k * 3, none⟩ = some (.int .i64 o.kd) ∧ w'.cell? ⟨g, f + k * 3 + 1, none⟩ = some (.string o.nm) ∧ w'.cell? ⟨g, f + k * 3 + 2, none⟩ = some (.int .i64 o.x)) ∧ ∃ (m : Nat) (q' : Option Addr) (c' : Nat), w'.cell? ⟨rb, 0, none⟩ = some (.slice q' m c') ∧ Hid (Calls Try.prog 12 #[pV cb] w' fun e w2 => e = .returned (.int .i64 m) ∧ w2 = w') ∧ Hid (∃ R', BB w w' cb rb NX R' R')) := by
        refine (step_go (hR.below (w' := wr.drew) ((Below.refl _ _).drew)) o.kd o.nm o.x hsz).mono ?_
        rintro e w' ⟨rfl, R', h'⟩
        obtain ⟨q', c', e'⟩ := h'.rcell
        exact ⟨rfl, HC.out _ h'.bel, R'.length, q', c', e', b_len h', R', h'⟩
      have Hk : Hid (k < n) := hk
      subst eq1
      clear hk HK hR ho c0 c1 c2 hsz HC
      obtain ⟨kd, nm, x⟩ := o
      simp only at zz H11
      obtain ⟨z0, z1, z2⟩ := zz
      have zz : wr.cell? ⟨g, f + k * 3, none⟩ = some (.int .i64 kd) ∧ wr.cell? ⟨g, f + k * 3 + 1, none⟩ = some (.string nm) ∧ wr.cell? ⟨g, f + k * 3 + 2, none⟩ = some (.int .i64 x) := ⟨z0, z1, z2⟩
      go_upto_region 8 with fail
      go_region_with (first | (go_at_call 11; refine H11.out.mono ?_; rintro e w3 ⟨rfl, z3, m, q', c', y3, h3, b3⟩) | (go_at_call 12; refine h3.out.mono ?_; rintro e w4 ⟨rfl, rfl⟩))
      all_goals go_wp2_with fail
      all_goals
        have := Hk.out
        refine ⟨⟨k + 1, by simp, by show k + 1 ≤ n; omega, b3.out⟩, ?_⟩
        simp [intOf]
        omega
    · have hk' : ¬ (k : Int) < (n : Int) := by omega
      have hk2 : decide ((k : Int) < (n : Int)) = false := decide_eq_false hk'
      obtain ⟨R, hR⟩ := HK.out.2
      have H14 : Hid (Calls Try.prog 14 #[pV cb, .int .i64 4611686018427387904] wr.drew fun e w' => ∃ u1, e = .returned u1 ∧ Hid (Calls Try.prog 15 #[pV rb, .int .i64 4611686018427387904] w' fun e w2 => ∃ u2, e = .returned u2 ∧ Hid (Calls Try.prog 13 #[u1, u2] w2 fun e w3 => e = .returned (.bool true) ∧ ∃ (m : Nat) (q' : Option Addr) (c' : Nat), w3.cell? ⟨rb, 0, none⟩ = some (.slice q' m c') ∧ Hid (Calls Try.prog 12 #[pV cb] w3 fun e w4 => e = .returned (.int .i64 m) ∧ w4 = w3) ∧ Hid (Below w.heap.size w w3)))) := by
        have hl := hR.srt
        refine (b_dues (hR.below (w' := wr.drew) ((Below.refl _ _).drew)) 4611686018427387904).mono ?_
        rintro e w' ⟨u1, rfl, h1, h2⟩
        refine ⟨u1, rfl, ?_⟩
        refine (h2 w' (Below.refl _ _)).mono ?_
        rintro e w2 ⟨u2, rfl, h3, h4, h5⟩
        refine ⟨u2, rfl, ?_⟩
        refine (same_any h4 h5 ?_).mono ?_
        · have := congrArg List.length (pw_dw 4611686018427387904 R)
          rw [List.length_append] at this
          omega
        rintro e w3 ⟨rfl, b3⟩
        have h' := h3.below b3
        obtain ⟨q', c', e'⟩ := h'.rcell
        exact ⟨rfl, _, q', c', e', b_len h', h'.bel⟩
      clear hR HK HNN hk
      go_upto_region 10 with fail
      go_region_with (first | (go_at_call 14; refine H14.out.mono ?_; rintro e w3 ⟨u1, rfl, h3⟩) | (go_at_call 15; refine h3.out.mono ?_; rintro e w4 ⟨u2, rfl, h4⟩) | (go_at_call 13; refine h4.out.mono ?_; rintro e w5 ⟨rfl, m, q', c', y5, h5, b5⟩) | (go_at_call 12; refine h5.out.mono ?_; rintro e w6 ⟨rfl, rfl⟩))
      all_goals go_wp2_with fail
      all_goals go_ret
      all_goals exact ⟨ret_b (by simp), b5.out⟩
end Go.Proofs.Ytnjnfbfjmeofaaa
