/-
  A ledger in a law; the laws' function awake.
-/
import Derived.Test.YtehgcaaeifnjeaaWh
namespace Go.Proofs.Ytehgcaaeifnjeaa
open Go.RowKit Go.Maps Go.WideMaps

/-- a ledger that a law has made; X: blocks of the law's own, as they lie -/
structure LL (w0 w : World) (X : Nat → Option Obj) (pb : Nat) (D : List A) : Prop where
  bel : Below w0.heap.size w0 w
  led : ∃ S, Led w S pb D ∧ ∀ k, S k → w0.heap.size ≤ k ∧ X k = none
  kept : ∀ k o, X k = some o → w.heap[k]? = some o
def NX : Nat → Option Obj := fun _ => none
def XS (X : Nat → Option Obj) (g : Nat) (o : Obj) : Nat → Option Obj := fun k => if k = g then some o else X k
theorem LL.below {w0 w w1 : World} {X : Nat → Option Obj} {pb : Nat} {D : List A} (h : LL w0 w X pb D) (b : Below w.heap.size w w1) : LL w0 w1 X pb D := by
  obtain ⟨S, h1, h2⟩ := h.led
  exact ⟨h.bel.trans (b.mono h.bel.size), ⟨S, h1.keepB b, h2⟩, fun k o hk => (b.block k (Array.getElem?_eq_some_iff.1 (h.kept k o hk)).1).trans (h.kept k o hk)⟩
theorem LL.drew {w0 w : World} {X : Nat → Option Obj} {pb : Nat} {D : List A} (h : LL w0 w X pb D) (n : Nat) : LL w0 (w.drewN n) X pb D := h.below (below_drewN (Below.refl _ _) n)
theorem LL.step {w0 w w1 : World} {X : Nat → Option Obj} {pb : Nat} {D' : List A} {S S' : Nat → Prop} (hb : Below w0.heap.size w0 w) (h2 : ∀ k, S k → w0.heap.size ≤ k ∧ X k = none) (hk : ∀ k o, X k = some o → w.heap[k]? = some o) (h1 : Led w1 S' pb D') (hs : Step S S' w w1) : LL w0 w1 X pb D' := by
  refine ⟨hb.trans (hs.1.below hb.size fun k hk q => ?_), ⟨S', h1, fun k hk' => ?_⟩, fun k o hx => (hs.1.block k (Array.getElem?_eq_some_iff.1 (hk k o hx)).1 fun q => ?_).trans (hk k o hx)⟩
  · have := (h2 k q).1
    omega
  · rcases hs.2 k hk' with q | q
    · exact h2 k q
    · refine ⟨Nat.le_trans hb.size q, ?_⟩
      cases hx : X k with
      | none => rfl
      | some o =>
        have := (Array.getElem?_eq_some_iff.1 (hk k o hx)).1
        omega
  · rw [(h2 k q).2] at hx
    cases hx
theorem LL.alloc {w0 w : World} {X : Nat → Option Obj} {pb : Nat} {D : List A} (h : LL w0 w X pb D) (o : Obj) : LL w0 (w.alloc o) (XS X w.heap.size o) pb D := by
  have h' := h.below ((Below.refl _ w).alloc (Nat.le_refl _) o)
  obtain ⟨S, h1, h2⟩ := h.led
  refine ⟨h'.bel, ⟨S, h1.keepB ((Below.refl _ w).alloc (Nat.le_refl _) o), fun k hk => ⟨(h2 k hk).1, ?_⟩⟩, fun k q hk => ?_⟩
  · unfold XS
    rw [if_neg]
    · exact (h2 k hk).2
    · have := h1.2 k hk
      omega
  · unfold XS at hk
    split at hk
    · rename_i e
      rw [e, ← Option.some.inj hk]
      exact new0
    · exact h'.kept k q hk
/-- a block of the law's own changes -/
theorem LL.put {w0 w w1 : World} {X : Nat → Option Obj} {pb : Nat} {D : List A} (h : LL w0 w X pb D) {g : Nat} {o o' : Obj} (hg : X g = some o) (hw : w0.heap.size ≤ g) (hk : Kp (· = g) w w1) (ho : w1.heap[g]? = some o') : LL w0 w1 (XS X g o') pb D := by
  obtain ⟨S, h1, h2⟩ := h.led
  have hS : ∀ k, S k → k ≠ g := fun k hk e => by
    have := (h2 k hk).2
    rw [e, hg] at this
    cases this
  refine ⟨h.bel.trans (hk.below h.bel.size fun k hk' q => by omega), ⟨S, h1.keepK hk fun k hk' q => hS k hk' q, fun k hk' => ⟨(h2 k hk').1, ?_⟩⟩, fun k q hx => ?_⟩
  · unfold XS
    rw [if_neg (hS k hk')]
    exact (h2 k hk').2
  · unfold XS at hx
    split at hx
    · rename_i e
      rw [e, ← Option.some.inj hx]
      exact ho
    · rename_i hne
      exact (hk.block k (Array.getElem?_eq_some_iff.1 (h.kept k q hx)).1 hne).trans (h.kept k q hx)
theorem l_new (w0 w : World) (X : Nat → Option Obj) (b : Below w0.heap.size w0 w) (hX : ∀ k o, X k = some o → w.heap[k]? = some o) : LL w0 (w.alloc (.cells #[.map none] 61 (0, 0))) X w.heap.size [] := by
  refine ⟨b.alloc b.size _, ⟨_, led_new w, fun k hk => ?_⟩, fun k o hk => at_alloc (hX k o hk)⟩
  rw [show k = w.heap.size from hk]
  refine ⟨b.size, ?_⟩
  cases hx : X w.heap.size with
  | none => rfl
  | some o =>
    have := (Array.getElem?_eq_some_iff.1 (hX _ o hx)).1
    omega
section
variable {w0 w : World} {X : Nat → Option Obj} {pb : Nat} {D : List A}
theorem l_open (h : LL w0 w X pb D) (s : ByteArray) (hs : s.size ≤ 281474976710656) (v : V) :
    Calls Try.prog 18 #[.pointer (some ⟨pb, 0, none⟩), .string s, vec v] w fun e w' => e = .returned (.int .i64 (openD D s.data.toList v).1) ∧ Hid (LL w0 w' X pb (openD D s.data.toList v).2) := by
  obtain ⟨S, h1, h2⟩ := h.led
  exact (open_any h1 s hs v).mono fun e w' ⟨he, S', hl, hst⟩ => ⟨he, LL.step h.bel h2 h.kept hl hst⟩
theorem l_close (h : LL w0 w X pb D) (s : ByteArray) (hs : s.size ≤ 281474976710656) :
    Calls Try.prog 25 #[.pointer (some ⟨pb, 0, none⟩), .string s] w fun e w' => e = .returned (.int .i64 (closeD D s.data.toList).1) ∧ Hid (LL w0 w' X pb (closeD D s.data.toList).2) := by
  obtain ⟨S, h1, h2⟩ := h.led
  exact (close_any h1 s hs).mono fun e w' ⟨he, S', hl, hst⟩ => ⟨he, LL.step h.bel h2 h.kept hl hst⟩
theorem l_used (h : LL w0 w X pb D) (s : ByteArray) (hs : s.size ≤ 281474976710656) :
    Calls Try.prog 14 #[.pointer (some ⟨pb, 0, none⟩), .string s] w fun e w' => e = ansV (usedD D s.data.toList) ∧ Hid (LL w0 w' X pb D) := by
  obtain ⟨S, h1, h2⟩ := h.led
  exact (used_any h1 s hs).mono fun e w' ⟨he, hb⟩ => ⟨he, h.below hb⟩
theorem l_left (h : LL w0 w X pb D) (s : ByteArray) (hs : s.size ≤ 281474976710656) :
    Calls Try.prog 27 #[.pointer (some ⟨pb, 0, none⟩), .string s] w fun e w' => e = ansV (leftD D s.data.toList) ∧ Hid (LL w0 w' X pb D) := by
  obtain ⟨S, h1, h2⟩ := h.led
  exact (left_any h1 s hs).mono fun e w' ⟨he, hb⟩ => ⟨he, h.below hb⟩
theorem l_take (h : LL w0 w X pb D) (s : Option Addr) (es : List E) (c : Nat) (hn : es.length < 1152921504606846976) (hr : ERow w s es) (hz : ∀ e ∈ es, e.nm.size ≤ 281474976710656) :
    Calls Try.prog 19 #[.pointer (some ⟨pb, 0, none⟩), .slice s es.length c] w fun e w' => e = .returned (.int .i64 (takeD D es).1) ∧ Hid (LL w0 w' X pb (takeD D es).2) := by
  obtain ⟨S, h1, h2⟩ := h.led
  exact (take_any h1 s es c hn hr hz).mono fun e w' ⟨he, S', hl, hst⟩ => ⟨he, LL.step h.bel h2 h.kept hl hst⟩
theorem l_give (h : LL w0 w X pb D) (s : Option Addr) (es : List E) (c : Nat) (hn : es.length < 1152921504606846976) (hr : ERow w s es) (hz : ∀ e ∈ es, e.nm.size ≤ 281474976710656) :
    Calls Try.prog 20 #[.pointer (some ⟨pb, 0, none⟩), .slice s es.length c] w fun e w' => e = .returned (.int .i64 (giveD D es).1) ∧ Hid (LL w0 w' X pb (giveD D es).2) := by
  obtain ⟨S, h1, h2⟩ := h.led
  exact (give_any h1 s es c hn hr hz).mono fun e w' ⟨he, S', hl, hst⟩ => ⟨he, LL.step h.bel h2 h.kept hl hst⟩
end
/-- one entry in a row of its own -/
theorem erow1 {w : World} {g : Nat} {ty : TypeId} {e : E} (h : w.heap[g]? = some (.cells #[.string e.nm, .int .i64 e.am.a, .int .i64 e.am.b, .int .i64 e.am.c, .int .i64 e.am.d] ty (0, 0))) : ERow w (some ⟨g, 0, none⟩) [e] := fun i v hv => by
  cases i with
  | zero =>
    obtain rfl := Option.some.inj hv
    obtain ⟨h0, h1, h2, h3, h4, -⟩ := cells5 h
    exact ⟨g, 0, rfl, h0, h1, h2, h3, h4⟩
  | succ i => simp at hv
def nA : ByteArray := ⟨#[97]⟩
def aw4 : V := ⟨4, 0, 0, 0⟩
def aw3 : V := ⟨3, 0, 0, 0⟩
def awD : List A := [⟨[97], aw4, V.nil⟩]
def awE : List A := [⟨[97], aw4, aw3⟩]
theorem aw_open : openD [] [97] aw4 = (0, awD) := by kernel_rfl
theorem aw_take : takeD awD [⟨nA, aw3⟩] = (0, awE) := by kernel_rfl
theorem aw_left : leftD awE [97] = (⟨1, 0, 0, 0⟩, 0) := by decide +kernel
set_option maxHeartbeats 1000000 in
set_option maxRecDepth 100000 in
theorem awake_any (w0 w : World) (X : Nat → Option Obj) (b : Below w0.heap.size w0 w) (hX : ∀ k o, X k = some o → w.heap[k]? = some o) : Calls Try.prog 9 #[] w fun e w' => e = .returned (.bool true) ∧ Hid (Below w0.heap.size w0 w' ∧ ∀ k o, X k = some o → w'.heap[k]? = some o) := by
  have HN : Hid (Calls Try.prog 11 #[] w fun e w' => ∃ pb, e = .returned (.pointer (some ⟨pb, 0, none⟩)) ∧ Hid (LL w0 w' X pb [])) := (new_any w).mono fun e w' ⟨he, hw⟩ => ⟨_, he, by rw [hw]; exact l_new w0 w X b hX⟩
  have HO : Hid (∀ pb W, LL w0 W X pb [] → Calls Try.prog 18 #[.pointer (some ⟨pb, 0, none⟩), .string ⟨#[97]⟩, .agg #[.int .i64 4, .int .i64 0, .int .i64 0, .int .i64 0]] W fun e w' => e = .returned (.int .i64 0) ∧ Hid (LL w0 w' X pb awD)) := fun pb W h => by
    have := l_open h nA (by decide) aw4
    rw [show nA.data.toList = [97] from rfl, aw_open] at this
    exact this
  have HT : Hid (∀ pb W g, LL w0 W X pb awD → W.heap[g]? = some (.cells #[.string ⟨#[97]⟩, .int .i64 3, .int .i64 0, .int .i64 0, .int .i64 0] 50 (0, 0)) → Calls Try.prog 19 #[.pointer (some ⟨pb, 0, none⟩), .slice (some ⟨g, 0, none⟩) 1 1] W fun e w' => e = .returned (.int .i64 0) ∧ Hid (LL w0 w' X pb awE)) := fun pb W g h hg => by
    have := l_take h (some ⟨g, 0, none⟩) [⟨nA, aw3⟩] 1 (by decide) (erow1 hg) (fun e he => by rw [List.mem_singleton.1 he]; decide)
    rw [aw_take] at this
    exact this
  have HL : Hid (∀ pb W, LL w0 W X pb awE → Calls Try.prog 27 #[.pointer (some ⟨pb, 0, none⟩), .string ⟨#[97]⟩] W fun e w' => e = .returned (.tuple #[.agg #[.int .i64 1, .int .i64 0, .int .i64 0, .int .i64 0], .int .i64 0]) ∧ Hid (LL w0 w' X pb awE)) := fun pb W h => by
    have := l_left h nA (by decide)
    rw [show nA.data.toList = [97] from rfl, aw_left] at this
    exact this
  have q1 : ∀ w, (Op.equalIn 10000 33 (.agg #[.int .i64 1, .int .i64 0, .int .i64 0, .int .i64 0]) (.agg #[.int .i64 1, .int .i64 0, .int .i64 0, .int .i64 0])).run Try.prog w = .ok true w := fun w => eq4 1 0 0 0 1 0 0 0 w
  clear b hX
  go_enter Try.func9, Try.ntmps9
  go_wp2_with (go_at_call 11; refine HN.out.mono ?_; rintro e w1 ⟨pb, rfl, h1⟩)
  go_wp2_with (go_at_call 18; refine (HO.out pb _ h1.out).mono ?_; rintro e w2 ⟨rfl, h2⟩)
  go_wp2_with (go_at_call 19; refine (HT.out pb _ _ (h2.out.below ((Below.refl _ _).alloc (Nat.le_refl _) _)) new0).mono ?_; rintro e w3 ⟨rfl, h3⟩)
  go_wp2_with (go_at_call 27; refine (HL.out pb _ h3.out).mono ?_; rintro e w4 ⟨rfl, h4⟩)
  have h5 := h4.out.below ((Below.refl _ _).alloc (Nat.le_refl _) (.cells #[.int .i64 1, .int .i64 0, .int .i64 0, .int .i64 0] 33 (0, 0)))
  go_ret
  exact ⟨rfl, h5.bel, h5.kept⟩
end Go.Proofs.Ytehgcaaeifnjeaa
