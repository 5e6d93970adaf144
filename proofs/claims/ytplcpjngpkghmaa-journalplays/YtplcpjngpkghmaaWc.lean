/-
  The disk's functions that look into its map and write it: find, put, add.
-/
import Derived.Test.YtplcpjngpkghmaaWb
import Derived.Carry
import Derived.Deep.CutBlock
import Derived.Deep.CutRange
import Derived.Deep.DeepCutAuto
import Derived.Deep.RegionHeld3
namespace Go.Proofs.Ytplcpjngpkghmaa
open Go.RowKit Go.Maps Go.WideMaps

theorem law9 : Keyed Try.prog 9 := string_keyed Try.underlying9
theorem zero59 (w : World) : (zeroValue 66).run Try.prog w = .ok (.pointer none) w := by kernel_rfl
def fptr (o : Option Fl) : Value := match o with
  | none => .pointer none
  | some f => .pointer (some ⟨f.fb, 0, none⟩)

theorem look_at {w : World} {tg : Nat → Tg} {mb : Option Nat} {l : List Fl} (h : MpAt w tg mb l) (s : ByteArray) (hs : s.size ≤ maxLen) :
    (Instr.lookup 61 (.map mb) (.string s) false).run Try.prog w = .ok (fptr (fnd Fl.nm s.data.toList l)) w := by
  have hkey := keyOf_string_mk (P := Try.prog) Try.underlying9 hs
  unfold MpAt at h
  cases mb with
  | none =>
    subst h
    have := Maps.look_nil (w := w) false law9 Try.underlying61 (zero59 w) hkey
    simpa [fnd, fptr] using this
  | some m =>
    obtain ⟨v, ps, hr, hv⟩ := h.2.lookup law9 Try.underlying61 (zero59 w) (zd := .nil) (zp := []) rfl hkey
    rw [mapOf_at] at hv
    rw [hr]
    cases hf : fnd Fl.nm s.data.toList l with
    | none => rw [hf] at hv; rw [pE_nil hv]; rfl
    | some f => rw [hf] at hv; rw [pE_held hv]; rfl

def findC (D : DK) (o : Option Fl) : Int := if D.down then 11 else match o with
  | none => 3
  | some _ => 0
def findP (D : DK) (o : Option Fl) : Value := if D.down then .pointer none else fptr o

set_option maxHeartbeats 400000 in
theorem find_down (w : World) (pb : Nat) (a c d : Value) (s : ByteArray) (h : Hid (w.heap[pb]? = some (.cells #[a, .bool true, c, d] 63 (0, 0)))) :
    Calls Try.prog 53 #[.pointer (some ⟨pb, 0, none⟩), .string s] w fun e w' => e = .returned (.tuple #[.pointer none, .int .i64 11]) ∧ w' = w := by
  have H14 : Hid (∀ (R : Ending → World → Prop), (∀ e w', (e = .returned (.bool true) ∧ w' = w) → R e w') → Calls Try.prog 17 #[.pointer (some ⟨pb, 0, none⟩)] w R) := fun R hR => (down_at w pb a c d true h).mono hR
  go_enter Try.func53, Try.ntmps53
  go_wp2_with (go_at_call 17; refine H14.out _ ?_)
  rintro e w1 ⟨rfl, rfl⟩
  go_wp2_with fail
  go_ret2
  exact ⟨rfl, rfl⟩
set_option maxHeartbeats 400000 in
theorem find_nil (w : World) (s : ByteArray) :
    Calls Try.prog 53 #[.pointer none, .string s] w fun e w' => e = .returned (.tuple #[.pointer none, .int .i64 11]) ∧ w' = w := by
  have H14 : Hid (∀ (R : Ending → World → Prop), (∀ e w', (e = .returned (.bool true) ∧ w' = w) → R e w') → Calls Try.prog 17 #[.pointer none] w R) := fun R hR => (down_nil w).mono hR
  go_enter Try.func53, Try.ntmps53
  go_wp2_with (go_at_call 17; refine H14.out _ ?_)
  rintro e w1 ⟨rfl, rfl⟩
  go_wp2_with fail
  go_ret2
  exact ⟨rfl, rfl⟩
set_option maxHeartbeats 400000 in
theorem find_no (w : World) (pb : Nat) (mb : Option Nat) (c d : Value) (s : ByteArray) (h : Hid (w.heap[pb]? = some (.cells #[.map mb, .bool false, c, d] 63 (0, 0)))) (hlk : (Instr.lookup 61 (.map mb) (.string s) false).run Try.prog w = .ok (.pointer none) w) :
    Calls Try.prog 53 #[.pointer (some ⟨pb, 0, none⟩), .string s] w fun e w' => e = .returned (.tuple #[.pointer none, .int .i64 3]) ∧ w' = w := by
  have H14 : Hid (∀ (R : Ending → World → Prop), (∀ e w', (e = .returned (.bool false) ∧ w' = w) → R e w') → Calls Try.prog 17 #[.pointer (some ⟨pb, 0, none⟩)] w R) := fun R hR => (down_at w pb _ c d false h).mono hR
  obtain ⟨e0, e1, e2, e3⟩ := c4 h.out
  go_enter Try.func53, Try.ntmps53
  go_wp2_with (go_at_call 17; refine H14.out _ ?_)
  rintro e w1 ⟨rfl, rfl⟩
  go_wp2_with fail
  go_ret2
  exact ⟨rfl, rfl⟩
set_option maxHeartbeats 400000 in
theorem find_yes (w : World) (pb fb : Nat) (mb : Option Nat) (c d : Value) (s : ByteArray) (h : Hid (w.heap[pb]? = some (.cells #[.map mb, .bool false, c, d] 63 (0, 0)))) (hlk : (Instr.lookup 61 (.map mb) (.string s) false).run Try.prog w = .ok (.pointer (some ⟨fb, 0, none⟩)) w) :
    Calls Try.prog 53 #[.pointer (some ⟨pb, 0, none⟩), .string s] w fun e w' => e = .returned (.tuple #[.pointer (some ⟨fb, 0, none⟩), .int .i64 0]) ∧ w' = w := by
  have H14 : Hid (∀ (R : Ending → World → Prop), (∀ e w', (e = .returned (.bool false) ∧ w' = w) → R e w') → Calls Try.prog 17 #[.pointer (some ⟨pb, 0, none⟩)] w R) := fun R hR => (down_at w pb _ c d false h).mono hR
  obtain ⟨e0, e1, e2, e3⟩ := c4 h.out
  go_enter Try.func53, Try.ntmps53
  go_wp2_with (go_at_call 17; refine H14.out _ ?_)
  rintro e w1 ⟨rfl, rfl⟩
  go_wp2_with fail
  go_ret2
  exact ⟨rfl, rfl⟩
theorem find_any {w : World} {tg : Nat → Tg} {pb : Nat} {D : DK} {mb : Option Nat} {l : List Fl} {z : Int} (h : DkAt w tg pb D mb l z) (s : ByteArray) (hs : s.size ≤ maxLen) :
    Calls Try.prog 53 #[.pointer (some ⟨pb, 0, none⟩), .string s] w fun e w' => e = .returned (.tuple #[findP D (fnd Fl.nm s.data.toList l), .int .i64 (findC D (fnd Fl.nm s.data.toList l))]) ∧ w' = w := by
  have hlk := look_at h.mp s hs
  have hc := h.cell
  obtain ⟨fs, dn, fu⟩ := D
  unfold findP findC
  cases dn with
  | true => exact find_down w pb _ _ _ s hc
  | false =>
    cases hf : fnd Fl.nm s.data.toList l with
    | none => rw [hf] at hlk; exact find_no w pb mb _ _ s hc hlk
    | some f => rw [hf] at hlk; exact find_yes w pb f.fb mb _ _ s hc hlk

end Go.Proofs.Ytplcpjngpkghmaa
