/-
  The reference's Update.
-/
import Derived.Test.YtbaffgkopgbknaaZc
namespace Go.Proofs.Ytbaffgkopgbknaa
open Go.RowKit Go.Maps

theorem rflat_key : ∀ (l : List RE) (i : Nat) (e : RE) (k : K), l[i]? = some e → rflat (l.set i ⟨k, e.on⟩) = (((rflat l).set (i * 4) (.int .i64 k.a)).set (i * 4 + 1) (.int .i64 k.b)).set (i * 4 + 2) (.int .i64 k.c)
  | [], i, e, k, h => by simp at h
  | p :: l, 0, e, k, h => by
    have q : p = e := by simpa using h
    subst q
    rfl
  | p :: l, i + 1, e, k, h => by
    have ih := rflat_key l i e k (by simpa using h)
    show p.cs ++ rflat (l.set i ⟨k, e.on⟩) = (((p.cs ++ rflat l).set ((i + 1) * 4) _).set ((i + 1) * 4 + 1) _).set ((i + 1) * 4 + 2) _
    rw [ih, show (i + 1) * 4 = i * 4 + 4 by omega, show i * 4 + 4 + 1 = i * 4 + 1 + 4 by omega, show i * 4 + 4 + 2 = i * 4 + 2 + 4 by omega]
    rfl
/-- the world behind the store of a key -/
def wkey (w : World) (g o : Nat) (k : K) : World := ((w.setCell ⟨g, o, none⟩ (.int .i64 k.a)).setCell ⟨g, o + 1, none⟩ (.int .i64 k.b)).setCell ⟨g, o + 2, none⟩ (.int .i64 k.c)
section
variable {w w' : World} {rb : Nat} {v : Value} {l : List RE}
theorem wkey_other {w : World} {g o x : Nat} {k : K} (h : x ≠ g) : (wkey w g o k).heap[x]? = w.heap[x]? := by
  unfold wkey
  rw [Below.heap_setCell _ _ _ _ (by exact h), Below.heap_setCell _ _ _ _ (by exact h), Below.heap_setCell _ _ _ _ (by exact h)]
theorem Rf.key {g n c : Nat} (h : Rf w rb (.slice (some ⟨g, 0, none⟩) n c) l) {i : Nat} {e : RE} (hi : l[i]? = some e) (k : K) : Rf (wkey w g (i * 4) k) rb (.slice (some ⟨g, 0, none⟩) n c) (l.set i ⟨k, e.on⟩) := by
  refine ⟨(wkey_other h.ne).trans h.b, by rw [rflat_len], ?_⟩
  rcases h.r.2 with ⟨q, _⟩ | ⟨g', cap, cur, q, hb, hgg, h1, h2, h3, h4⟩
  · cases q
  · cases q
    refine .inr ⟨g, c, _, by rw [List.length_set], hb, setB (setB (setB hgg _) _) _, by rw [List.length_set]; exact h1, h2, by simp only [Array.size_setIfInBounds]; exact h3, ?_⟩
    rw [List.length_set, rflat_key l i e k hi]
    simp only [Array.toList_setIfInBounds, List.take_set, h4]
set_option maxHeartbeats 1000000 in
theorem rupd_no (x : Int) (k : K) (H27 : Hid (∀ w1, Below w.heap.size w w1 → Calls Try.prog 27 #[.pointer (some ⟨rb, 0, none⟩), .int .i64 x] w1 fun e w' => e = .returned (.tuple #[.agg #[.int .i64 0, .int .i64 0, .int .i64 0], .int .i64 3]) ∧ Below w1.heap.size w1 w')) : Calls Try.prog 25 #[.pointer (some ⟨rb, 0, none⟩), .int .i64 x, .agg #[.int .i64 k.a, .int .i64 k.b, .int .i64 k.c]] w fun e w' => e = .returned (.int .i64 3) ∧ Below w.heap.size w w' := by
  have B0 : Below w.heap.size w (w.alloc (.cells #[.int .i64 k.a, .int .i64 k.b, .int .i64 k.c] 45)) := (Below.refl _ w).alloc (Nat.le_refl _) _
  have H := H27.out _ B0
  have HB : Hid (Below w.heap.size w (w.alloc (.cells #[.int .i64 k.a, .int .i64 k.b, .int .i64 k.c] 45))) := B0
  clear B0
  go_enter Try.func25, Try.ntmps25
  go_wp2_with (go_at_call 27; refine H.mono ?_; rintro e w1 ⟨rfl, b1⟩; have y1 : Hid (Below w.heap.size w w1) := below_from HB.out b1 HB.out.size; clear b1)
  go_ret
  exact ⟨rfl, y1.out.alloc y1.out.size _⟩
set_option maxHeartbeats 2000000 in
theorem rupd_yes (h : Hid (Rf w rb v l)) (i : Nat) (k o : K) (hi : Hid (l[i]? = some ⟨o, true⟩)) (H27 : Hid (∀ w1, Below w.heap.size w w1 → Calls Try.prog 27 #[.pointer (some ⟨rb, 0, none⟩), .int .i64 i] w1 fun e w' => e = .returned (.tuple #[.agg #[.int .i64 o.a, .int .i64 o.b, .int .i64 o.c], .int .i64 0]) ∧ Below w1.heap.size w1 w')) :
    Calls Try.prog 25 #[.pointer (some ⟨rb, 0, none⟩), .int .i64 i, .agg #[.int .i64 k.a, .int .i64 k.b, .int .i64 k.c]] w fun e w' => e = .returned (.int .i64 0) ∧ Rf w' rb v (l.set i ⟨k, true⟩) ∧ Kp (fun j => v.ownBlock = some j) w w' := by
  have hil : i < l.length := (List.getElem?_eq_some_iff.1 hi.out).1
  obtain ⟨g, c, rfl⟩ := h.out.row (by intro q; rw [q] at hil; simp at hil)
  have hil' : (i : Int) < (l.length : Int) := by omega
  have hi0 : 0 ≤ (i : Int) := by omega
  clear hil
  have B0 : Below w.heap.size w (w.alloc (.cells #[.int .i64 k.a, .int .i64 k.b, .int .i64 k.c] 45)) := (Below.refl _ w).alloc (Nat.le_refl _) _
  have N0 : Hid ((w.alloc (.cells #[.int .i64 k.a, .int .i64 k.b, .int .i64 k.c] 45)).heap[w.heap.size]? = some (.cells #[.int .i64 k.a, .int .i64 k.b, .int .i64 k.c] 45 (0, 0))) := new0
  have H := H27.out _ B0
  have HB : Hid (Below w.heap.size w (w.alloc (.cells #[.int .i64 k.a, .int .i64 k.b, .int .i64 k.c] 45))) := B0
  clear B0
  go_enter Try.func25, Try.ntmps25
  go_upto_region 3 with (go_at_call 27; refine H.mono ?_; rintro e w1 ⟨rfl, b1⟩; have y1 : Hid (Below w.heap.size w w1) := below_from HB.out b1 HB.out.size; have N1 : Hid (w1.heap[w.heap.size]? = some (.cells #[.int .i64 k.a, .int .i64 k.b, .int .i64 k.c] 45 (0, 0))) := at_below b1 (Nat.le_refl _) N0.out; clear b1)
  have Y5 : Hid (Below w.heap.size w (w1.alloc (.cells #[.int .i64 o.a, .int .i64 o.b, .int .i64 o.c] 45))) := y1.out.alloc y1.out.size _
  have N5 : Hid ((w1.alloc (.cells #[.int .i64 o.a, .int .i64 o.b, .int .i64 o.c] 45)).heap[w.heap.size]? = some (.cells #[.int .i64 k.a, .int .i64 k.b, .int .i64 k.c] 45 (0, 0))) := at_alloc N1.out
  generalize w1.alloc (.cells #[.int .i64 o.a, .int .i64 o.b, .int .i64 o.c] 45) = w5 at *
  clear y1 N1 N0 HB H H27
  obtain ⟨q0, q1, q2⟩ := c3 N5.out
  have R5 : Hid (Rf w5 rb (.slice (some ⟨g, 0, none⟩) l.length c) l) := h.out.keep Y5.out
  have k1 := c1 R5.out.b
  have p0 := R5.out.cell hi.out (j := 0) rfl (by decide)
  have p1 := R5.out.cell hi.out (j := 1) rfl (by decide)
  have p2 := R5.out.cell hi.out (j := 2) rfl (by decide)
  rw [Nat.add_zero] at p0
  have f0 := R5.out.fz (i * 4)
  have f1 := R5.out.fz (i * 4 + 1)
  have f2 := R5.out.fz (i * 4 + 2)
  have HR : Hid (Rf (wkey w5 g (i * 4) k) rb (.slice (some ⟨g, 0, none⟩) l.length c) (l.set i ⟨k, true⟩) ∧ Kp (fun j => (Value.slice (some ⟨g, 0, none⟩) l.length c).ownBlock = some j) w (wkey w5 g (i * 4) k)) := by
    refine ⟨R5.out.key hi.out k, ?_⟩
    have k2 : Kp (fun j => (Value.slice (some ⟨g, 0, none⟩) l.length c).ownBlock = some j) w w5 := Kp.of_below Y5.out
    exact ((k2.trans (Kp.of_set _ ⟨g, i * 4, none⟩ _ rfl) fun _ _ q => congrArg some q).trans (Kp.of_set _ ⟨g, i * 4 + 1, none⟩ _ rfl) fun _ _ q => congrArg some q).trans (Kp.of_set _ ⟨g, i * 4 + 2, none⟩ _ rfl) fun _ _ q => congrArg some q
  clear R5 Y5 N5 h
  unfold wkey at HR
  go_region
  all_goals go_wp2_with fail
  all_goals go_ret
  all_goals exact ⟨rfl, ⟨HR.out.1.b, HR.out.1.r⟩, ⟨HR.out.2.os, HR.out.2.tape, HR.out.2.output, HR.out.2.size, HR.out.2.block⟩⟩
end
end Go.Proofs.Ytbaffgkopgbknaa
