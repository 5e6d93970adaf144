/-
  The document's Register, where it refuses.
-/
import Derived.Test.YtihjmigjphljnaaBa
import Derived.Test.YtihjmigjphljnaaRnm
namespace Go.Proofs.Ytihjmigjphljnaa
open Go.RowKit Go.Maps
open Tk

def ansR (r : Bool × Int) : Ending := .returned (.tuple #[.bool r.1, .int .i64 r.2])
def inR (ep now : Int) : Prop := (1 ≤ ep ∧ ep ≤ 2147483647) ∧ 0 ≤ now ∧ now ≤ 1099511627776
theorem rname_hid {s : ByteArray} {b : Bool} (hs : s.size ≤ 281474976710656) (h : Txt.name s = b) : Hid (∀ w, Calls Try.prog 37 #[.string s] w fun e w' => e = .returned (.bool b) ∧ w' = w) := fun w => by
  have := rname_any s w (by omega)
  rwa [h] at this
theorem rok_hid {v : V} {b : Bool} (h : v.ok = b) : Hid (∀ w, Calls Try.prog 38 #[.agg #[.int .i64 v.a, .int .i64 v.b, .int .i64 v.c, .int .i64 v.d]] w fun e w' => e = .returned (.bool b) ∧ Hid (Below w.heap.size w w')) := fun w => by
  have := rformed_any v.a v.b v.c v.d w
  rw [show fm v.a v.b v.c v.d = b from h] at this
  exact this
set_option maxHeartbeats 2000000 in
set_option maxRecDepth 100000 in
theorem rreg_form (w : World) (p : Value) (s : ByteArray) (hs : s.size ≤ 281474976710656) (ep now : Int) (v : V) (hf : (Txt.name s && v.ok) = false) : Calls Try.prog 22 #[p, .string s, .int .i64 ep, .agg #[.int .i64 v.a, .int .i64 v.b, .int .i64 v.c, .int .i64 v.d], .int .i64 now] w fun e w' => e = ansR (false, 4) ∧ Below w.heap.size w w' := by
  obtain ⟨q0, q1, q2, q3, -⟩ := cells4 (new0 (w := w) (o := .cells #[.int .i64 v.a, .int .i64 v.b, .int .i64 v.c, .int .i64 v.d] 32 (0, 0)))
  have Y : Hid (Below w.heap.size w (w.alloc (.cells #[.int .i64 v.a, .int .i64 v.b, .int .i64 v.c, .int .i64 v.d] 32 (0, 0)))) := (Below.refl _ w).alloc (Nat.le_refl _) _
  cases hn : Txt.name s with
  | false =>
    have HN := rname_hid hs hn
    clear hf hn hs
    go_enter Try.func22, Try.ntmps22
    go_wp2_with (go_at_call 37; refine (HN.out _).mono ?_; rintro e w1 ⟨rfl, rfl⟩)
    go_ret2
    exact ⟨rfl, Y.out⟩
  | true =>
    rw [hn, Bool.true_and] at hf
    have HN := rname_hid hs hn
    have HC := rok_hid hf
    clear hf hn hs
    go_enter Try.func22, Try.ntmps22
    go_wp2_with (first | (go_at_call 37; refine (HN.out _).mono ?_; rintro e w1 ⟨rfl, rfl⟩; clear HN) | (go_at_call 38; refine (HC.out _).mono ?_; rintro e w1 ⟨rfl, hb⟩))
    have b2 := below_from Y.out hb.out Y.out.size
    go_ret2
    exact ⟨rfl, b2⟩
set_option maxHeartbeats 2000000 in
set_option maxRecDepth 100000 in
theorem rreg_range (w : World) (p : Value) (s : ByteArray) (hs : s.size ≤ 281474976710656) (ep now : Int) (v : V) (hn : Txt.name s = true) (hv : v.ok = true) (hr : ¬ inR ep now) : Calls Try.prog 22 #[p, .string s, .int .i64 ep, .agg #[.int .i64 v.a, .int .i64 v.b, .int .i64 v.c, .int .i64 v.d], .int .i64 now] w fun e w' => e = ansR (false, 2) ∧ Below w.heap.size w w' := by
  obtain ⟨q0, q1, q2, q3, -⟩ := cells4 (new0 (w := w) (o := .cells #[.int .i64 v.a, .int .i64 v.b, .int .i64 v.c, .int .i64 v.d] 32 (0, 0)))
  have Y : Hid (Below w.heap.size w (w.alloc (.cells #[.int .i64 v.a, .int .i64 v.b, .int .i64 v.c, .int .i64 v.d] 32 (0, 0)))) := (Below.refl _ w).alloc (Nat.le_refl _) _
  have HN := rname_hid hs hn
  have HC := rok_hid hv
  clear hv hn hs
  have hc : ep < 1 ∨ (1 ≤ ep ∧ 2147483647 < ep) ∨ (1 ≤ ep ∧ ep ≤ 2147483647 ∧ now < 0) ∨ (1 ≤ ep ∧ ep ≤ 2147483647 ∧ 0 ≤ now ∧ 1099511627776 < now) := by unfold inR at hr; omega
  clear hr
  go_enter Try.func22, Try.ntmps22
  go_upto_region 3 with (first | (go_at_call 37; refine (HN.out _).mono ?_; rintro e w1 ⟨rfl, rfl⟩; clear HN) | (go_at_call 38; refine (HC.out _).mono ?_; rintro e w1 ⟨rfl, hb⟩))
  have b2 : Hid _ := below_from Y.out hb.out Y.out.size
  clear q0 q1 q2 q3 Y HC hb
  rcases hc with h | ⟨h1, h⟩ | ⟨h1, h2, h⟩ | ⟨h1, h2, h3, h⟩
  all_goals go_wp2_with fail
  all_goals go_ret2
  all_goals exact ⟨rfl, b2.out⟩
set_option maxHeartbeats 2000000 in
set_option maxRecDepth 100000 in
theorem rreg_full (w : World) (rb n c : Nat) (q : Option Addr) (s : ByteArray) (hs : s.size ≤ 281474976710656) (ep now : Int) (v : V) (hn : Txt.name s = true) (hv : v.ok = true) (hr : inR ep now) (hn12 : n = 12) (hR : Hid (w.heap[rb]? = some (.cells #[.slice q n c] 29 (0, 0)))) (H : Hid (∀ w1, Below w.heap.size w w1 → Calls Try.prog 39 #[.pointer (some ⟨rb, 0, none⟩), .string s] w1 fun e w' => e = .returned (.int .i64 (-1)) ∧ w' = w1)) : Calls Try.prog 22 #[.pointer (some ⟨rb, 0, none⟩), .string s, .int .i64 ep, .agg #[.int .i64 v.a, .int .i64 v.b, .int .i64 v.c, .int .i64 v.d], .int .i64 now] w fun e w' => e = ansR (false, 6) ∧ Below w.heap.size w w' := by
  subst hn12
  obtain ⟨q0, q1, q2, q3, -⟩ := cells4 (new0 (w := w) (o := .cells #[.int .i64 v.a, .int .i64 v.b, .int .i64 v.c, .int .i64 v.d] 32 (0, 0)))
  have Y : Hid (Below w.heap.size w (w.alloc (.cells #[.int .i64 v.a, .int .i64 v.b, .int .i64 v.c, .int .i64 v.d] 32 (0, 0)))) := (Below.refl _ w).alloc (Nat.le_refl _) _
  have HN := rname_hid hs hn
  have HC := rok_hid hv
  obtain ⟨⟨h1, h2⟩, h3, h4⟩ := hr
  clear hv hn hs
  go_enter Try.func22, Try.ntmps22
  go_upto_region 3 with (first | (go_at_call 37; refine (HN.out _).mono ?_; rintro e w1 ⟨rfl, rfl⟩; clear HN) | (go_at_call 38; refine (HC.out _).mono ?_; rintro e w1 ⟨rfl, hb⟩))
  have Y1 : Hid (Below w.heap.size w w1) := below_from Y.out hb.out Y.out.size
  clear q0 q1 q2 q3 Y HC hb
  go_upto_region 6 with (go_at_call 39; refine (H.out _ Y1.out).mono ?_; rintro e w2 ⟨rfl, h2⟩; obtain rfl := h2.symm)
  have e0 := c1 (at_below Y1.out (Nat.le_refl _) hR.out)
  clear H hR
  go_wp2_with fail
  go_ret2
  exact ⟨rfl, Y1.out⟩
set_option maxHeartbeats 2000000 in
set_option maxRecDepth 100000 in
theorem rreg_stale (w : World) (rb g n c k : Nat) (s : ByteArray) (hs : s.size ≤ 281474976710656) (ep now ep0 : Int) (v : V) (hn : Txt.name s = true) (hv : v.ok = true) (hr : inR ep now) (hk : k < n) (hl : ep ≤ ep0) (hR : Hid (w.heap[rb]? = some (.cells #[.slice (some ⟨g, 0, none⟩) n c] 29 (0, 0)))) (hd : Hid (w.cell? ⟨g, k * 8 + 1, none⟩ = some (.int .i64 ep0))) (H : Hid (∀ w1, Below w.heap.size w w1 → Calls Try.prog 39 #[.pointer (some ⟨rb, 0, none⟩), .string s] w1 fun e w' => e = .returned (.int .i64 k) ∧ w' = w1)) : Calls Try.prog 22 #[.pointer (some ⟨rb, 0, none⟩), .string s, .int .i64 ep, .agg #[.int .i64 v.a, .int .i64 v.b, .int .i64 v.c, .int .i64 v.d], .int .i64 now] w fun e w' => e = ansR (false, 14) ∧ Below w.heap.size w w' := by
  obtain ⟨q0, q1, q2, q3, -⟩ := cells4 (new0 (w := w) (o := .cells #[.int .i64 v.a, .int .i64 v.b, .int .i64 v.c, .int .i64 v.d] 32 (0, 0)))
  have Y : Hid (Below w.heap.size w (w.alloc (.cells #[.int .i64 v.a, .int .i64 v.b, .int .i64 v.c, .int .i64 v.d] 32 (0, 0)))) := (Below.refl _ w).alloc (Nat.le_refl _) _
  have HN := rname_hid hs hn
  have HC := rok_hid hv
  have hki : (k : Int) < (n : Int) := by omega
  have hk0 : (0 : Int) ≤ (k : Int) := by omega
  obtain ⟨⟨h1, h2⟩, h3, h4⟩ := hr
  clear hv hn hs
  go_enter Try.func22, Try.ntmps22
  go_upto_region 3 with (first | (go_at_call 37; refine (HN.out _).mono ?_; rintro e w1 ⟨rfl, rfl⟩; clear HN) | (go_at_call 38; refine (HC.out _).mono ?_; rintro e w1 ⟨rfl, hb⟩))
  have Y1 : Hid (Below w.heap.size w w1) := below_from Y.out hb.out Y.out.size
  clear q0 q1 q2 q3 Y HC hb
  go_upto_region 6 with (go_at_call 39; refine (H.out _ Y1.out).mono ?_; rintro e w2 ⟨rfl, h2⟩; obtain rfl := h2.symm)
  have e0 := c1 (at_below Y1.out (Nat.le_refl _) hR.out)
  have e1 := cell_below hd.out Y1.out
  clear H hR hd
  go_wp2_with fail
  go_ret2
  exact ⟨rfl, Y1.out⟩
end Go.Proofs.Ytihjmigjphljnaa
