/-
  A table in a law, beside blocks that are kept; awake.
-/
import Derived.Test.YtihjmigjphljnaaAk
namespace Go.Proofs.Ytihjmigjphljnaa
open Go.RowKit Go.Maps Go.WideMaps
open Tk

def NX : Nat → Option Obj := fun _ => none
def XS (X : Nat → Option Obj) (g : Nat) (o : Obj) : Nat → Option Obj := fun k => if k = g then some o else X k
/-- the program's table; X: blocks that are kept -/
structure LL (w0 w : World) (X : Nat → Option Obj) (pb : Nat) (D : List Nd) : Prop where
  bel : Below w0.heap.size w0 w
  led : ∃ S, Tab w S pb D ∧ ∀ k, S k → w0.heap.size ≤ k ∧ X k = none
  kept : ∀ k o, X k = some o → w.heap[k]? = some o
theorem kept_lt {w : World} {X : Nat → Option Obj} (h : ∀ k o, X k = some o → w.heap[k]? = some o) {k : Nat} (hk : w.heap.size ≤ k) : X k = none := by
  cases hx : X k with
  | none => rfl
  | some o =>
    have := (Array.getElem?_eq_some_iff.1 (h k o hx)).1
    omega
theorem kept_below {w W : World} {X : Nat → Option Obj} (h : ∀ k o, X k = some o → w.heap[k]? = some o) (b : Below w.heap.size w W) : ∀ k o, X k = some o → W.heap[k]? = some o := fun k o hx => at_below b (Nat.le_refl _) (h k o hx)
theorem kept_add {w W : World} {X : Nat → Option Obj} (h : ∀ k o, X k = some o → w.heap[k]? = some o) (b : Below w.heap.size w W) {g : Nat} {o : Obj} (hg : W.heap[g]? = some o) : ∀ k p, XS X g o k = some p → W.heap[k]? = some p := fun k p hk => by
  unfold XS at hk
  split at hk
  · rename_i e
    rw [e, ← Option.some.inj hk]
    exact hg
  · exact kept_below h b k p hk
theorem kept_none (w : World) : ∀ k o, NX k = some o → w.heap[k]? = some o := fun _ _ h => nomatch h
section
variable {w0 w W : World} {X : Nat → Option Obj} {pb : Nat} {D D1 : List Nd}
theorem LL.step (h : LL w0 w X pb D) {S S' : Nat → Prop} (hS : ∀ k, S k → w0.heap.size ≤ k ∧ X k = none) (ht : Tab W S' pb D1) (hs : Step S S' w W) : LL w0 W X pb D1 :=
  ⟨h.bel.trans (hs.1.below h.bel.size fun k h1 q => by have := (hS k q).1; omega), ⟨S', ht, fun k h1 => by
    rcases hs.2 k h1 with h2 | h2
    · exact hS k h2
    · exact ⟨Nat.le_trans h.bel.size h2, kept_lt h.kept h2⟩⟩, fun k o hx => by
    have h1 := h.kept k o hx
    refine (hs.1.block k (Array.getElem?_eq_some_iff.1 h1).1 fun q => ?_).trans h1
    rw [(hS k q).2] at hx
    cases hx⟩
theorem LL.below (h : LL w0 w X pb D) (b : Below w.heap.size w W) : LL w0 W X pb D := by
  obtain ⟨S, h1, h2⟩ := h.led
  exact h.step h2 (h1.keepB b) (Step.of_below S b)
theorem LL.add {g : Nat} {o : Obj} (h : LL w0 w X pb D) (b : Below w.heap.size w W) (hg : W.heap[g]? = some o) (hge : w.heap.size ≤ g) : LL w0 W (XS X g o) pb D := by
  obtain ⟨S, h1, h2⟩ := h.led
  refine ⟨(h.below b).bel, ⟨S, h1.keepB b, fun k hk => ⟨(h2 k hk).1, ?_⟩⟩, kept_add h.kept b hg⟩
  unfold XS
  rw [if_neg]
  · exact (h2 k hk).2
  · have := h1.2 k hk
    omega
theorem ll_new (b : Below w0.heap.size w0 w) (hk : ∀ k o, X k = some o → w.heap[k]? = some o) : LL w0 (w.alloc (.cells #[.map none, .slice none 0 0, .map none] 63 (0, 0))) X w.heap.size [] := by
  have b1 : Below w.heap.size w (w.alloc (.cells #[.map none, .slice none 0 0, .map none] 63 (0, 0))) := (Below.refl _ _).alloc (Nat.le_refl _) _
  refine ⟨b.trans (b1.mono b.size), ⟨_, tab_new w, fun k hk' => ?_⟩, kept_below hk b1⟩
  have e : k = w.heap.size := hk'
  rw [e]
  exact ⟨b.size, kept_lt hk (Nat.le_refl _)⟩
theorem ll_reg (h : LL w0 w X pb D) (s : ByteArray) (hs : s.size ≤ 281474976710656) (ep now : Int) (v : V) :
    Calls Try.prog 18 #[.pointer (some ⟨pb, 0, none⟩), .string s, .int .i64 ep, .agg #[.int .i64 v.a, .int .i64 v.b, .int .i64 v.c, .int .i64 v.d], .int .i64 now] w fun e w' => e = ansR (regR D s ep v now).1 ∧ Hid (LL w0 w' X pb (regR D s ep v now).2) := by
  obtain ⟨S, h1, h2⟩ := h.led
  exact (reg_any h1 s hs ep now v).mono fun e w' ⟨he, hh⟩ => ⟨he, by obtain ⟨S', h3, h4⟩ := hh.out; exact h.step h2 h3 h4⟩
theorem ll_beat (h : LL w0 w X pb D) (s : ByteArray) (hs : s.size ≤ 281474976710656) (ep now : Int) :
    Calls Try.prog 19 #[.pointer (some ⟨pb, 0, none⟩), .string s, .int .i64 ep, .int .i64 now] w fun e w' => e = .returned (.int .i64 (beatR D s.data.toList ep now).1) ∧ Hid (LL w0 w' X pb (beatR D s.data.toList ep now).2) := by
  obtain ⟨S, h1, h2⟩ := h.led
  exact (beat_any h1 s hs ep now).mono fun e w' ⟨he, hh⟩ => ⟨he, by obtain ⟨S', h3, h4⟩ := hh.out; exact h.step h2 h3 h4⟩
theorem ll_exp (h : LL w0 w X pb D) (now : Int) :
    Calls Try.prog 20 #[.pointer (some ⟨pb, 0, none⟩), .int .i64 now] w fun e w' => ∃ p c', e = .returned (.slice p (expN D now).length c') ∧ Hid (LL w0 w' X pb (expR D now) ∧ SR w' (.slice p (expN D now).length c') ((expN D now).map Nd.k)) := by
  obtain ⟨S, h1, h2⟩ := h.led
  exact (exp_any h1 now).mono fun e w' ⟨p, c', he, hh⟩ => ⟨p, c', he, by obtain ⟨S', h3, h4, h5, -⟩ := hh.out; exact ⟨h.step h2 h3 h4, h5⟩⟩
theorem ll_get (h : LL w0 w X pb D) (s : ByteArray) (hs : s.size ≤ 281474976710656) :
    Calls Try.prog 21 #[.pointer (some ⟨pb, 0, none⟩), .string s] w fun e w' => e = ansN (getR D s.data.toList) ∧ Hid (LL w0 w' X pb D) := by
  obtain ⟨S, h1, h2⟩ := h.led
  exact (get_any h1 s hs).mono fun e w' ⟨he, hb⟩ => ⟨he, h.below hb⟩
end
/-! ### one node -/
def nA : ByteArray := ⟨#[97]⟩
theorem name_A : Txt.name nA = true := by kernel_rfl
theorem fnd_one {n : Nd} {s : List UInt8} (h : n.k = s) : fnd Nd.k s [n] = some n := by unfold fnd; simp [h]
theorem put_one {n x : Nd} (h : n.k = x.k) : put x [n] = [x] := by unfold put drp ins; simp [h]
theorem reg_empty {s : ByteArray} {ep now : Int} {v : V} (hn : Txt.name s = true) (hv : v.ok = true) (hr : inR ep now) : regR [] s ep v now = ((false, 0), [⟨s, ep, v, now, true⟩]) := by
  unfold regR
  simp only [hn, hv, Bool.and_self, if_true]
  rw [if_pos (inR_dec'.2 hr)]
  rfl
theorem reg_again {s : ByteArray} {ep now : Int} {v : V} {n : Nd} (hs : n.nm = s) (hn : Txt.name s = true) (hv : v.ok = true) (hr : inR ep now) (he : n.ep < ep) : regR [n] s ep v now = ((n.lv, 0), [⟨s, ep, v, now, true⟩]) := by
  unfold regR
  simp only [hn, hv, Bool.and_self, if_true]
  rw [if_pos (inR_dec'.2 hr), fnd_one (by rw [← hs]; rfl)]
  simp only
  rw [if_neg (by omega), put_one (by rw [← hs] at *; rfl)]
theorem reg_past {s : ByteArray} {ep now : Int} {v : V} {n : Nd} (hs : n.nm = s) (hn : Txt.name s = true) (hr : inR ep now) (he : ep ≤ n.ep) : regR [n] s ep v now = ((false, if v.ok then 14 else 4), [n]) := by
  unfold regR
  cases hv : v.ok with
  | false => rw [Bool.and_false]; rfl
  | true =>
    simp only [hn, Bool.and_self, if_true]
    rw [if_pos (inR_dec'.2 hr), fnd_one (by rw [← hs]; rfl)]
    simp only
    rw [if_pos he]
set_option maxHeartbeats 2000000 in
set_option maxRecDepth 100000 in
theorem awake_any (w : World) : Calls Try.prog 9 #[] w fun e w' => e = .returned (.bool true) ∧ Hid (Below w.heap.size w w') := by
  have H1 : Hid (∀ W, LL w W NX w.heap.size [] → Calls Try.prog 18 #[.pointer (some ⟨w.heap.size, 0, none⟩), .string ⟨#[97]⟩, .int .i64 1, .agg #[.int .i64 4, .int .i64 0, .int .i64 0, .int .i64 0], .int .i64 0] W fun e w' => e = .returned (.tuple #[.bool false, .int .i64 0]) ∧ Hid (LL w w' NX w.heap.size [⟨nA, 1, ⟨4, 0, 0, 0⟩, 0, true⟩])) := fun W h => by
    have := ll_reg h nA (by decide) 1 0 ⟨4, 0, 0, 0⟩
    rw [reg_empty name_A (by decide) ⟨⟨by decide, by decide⟩, by decide, by decide⟩] at this
    exact this
  have H2 : Hid (∀ W, LL w W NX w.heap.size [⟨nA, 1, ⟨4, 0, 0, 0⟩, 0, true⟩] → Calls Try.prog 21 #[.pointer (some ⟨w.heap.size, 0, none⟩), .string ⟨#[97]⟩] W fun e w' => e = .returned (.tuple #[.agg #[.string ⟨#[97]⟩, .int .i64 1, .int .i64 4, .int .i64 0, .int .i64 0, .int .i64 0, .int .i64 0, .bool true], .int .i64 0]) ∧ Hid (LL w w' NX w.heap.size [⟨nA, 1, ⟨4, 0, 0, 0⟩, 0, true⟩])) := fun W h => by
    have := ll_get h nA (by decide)
    unfold getR at this
    rw [fnd_one (show _ = nA.data.toList from rfl)] at this
    exact this
  have H0 : Hid (LL w (w.alloc (.cells #[.map none, .slice none 0 0, .map none] 63 (0, 0))) NX w.heap.size []) := ll_new (Below.refl _ w) (kept_none w)
  go_enter Try.func9, Try.ntmps9
  go_upto_region 4 with (go_at_call 10; refine (new_any w).mono ?_; rintro e w1 ⟨rfl, rfl⟩)
  generalize w.alloc (.cells #[.map none, .slice none 0 0, .map none] 63) = W at *
  go_upto_region 6 with (first | (go_at_call 18; refine (H1.out _ H0.out).mono ?_; rintro e w2 ⟨rfl, h2⟩) | (go_at_call 21; refine (H2.out _ h2.out).mono ?_; rintro e w3 ⟨rfl, h3⟩))
  have Y : Hid (Below w.heap.size w (w3.alloc (.cells #[.string ⟨#[97]⟩, .int .i64 1, .int .i64 4, .int .i64 0, .int .i64 0, .int .i64 0, .int .i64 0, .bool true] 46))) := h3.out.bel.alloc h3.out.bel.size _
  have z1 : (w3.alloc (.cells #[.string ⟨#[97]⟩, .int .i64 1, .int .i64 4, .int .i64 0, .int .i64 0, .int .i64 0, .int .i64 0, .bool true] 46)).cell? ⟨w3.heap.size, 1, none⟩ = some (.int .i64 1) := by rw [cell_of new0]; rfl
  have z7 : (w3.alloc (.cells #[.string ⟨#[97]⟩, .int .i64 1, .int .i64 4, .int .i64 0, .int .i64 0, .int .i64 0, .int .i64 0, .bool true] 46)).cell? ⟨w3.heap.size, 7, none⟩ = some (.bool true) := by rw [cell_of new0]; rfl
  go_wp2_with fail
  go_ret
  exact ⟨rfl, Y.out⟩
end Go.Proofs.Ytihjmigjphljnaa
