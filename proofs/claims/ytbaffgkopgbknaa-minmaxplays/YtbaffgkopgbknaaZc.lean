/-
  An entry of the reference's heap is written; the reference's Delete.
-/
import Derived.Test.YtbaffgkopgbknaaZb
namespace Go.Proofs.Ytbaffgkopgbknaa
open Go.RowKit Go.Maps

theorem rflat_set : ∀ (l : List RE) (i : Nat) (e : RE), i < l.length → rflat (l.set i e) = ((((rflat l).set (i * 4) (.int .i64 e.k.a)).set (i * 4 + 1) (.int .i64 e.k.b)).set (i * 4 + 2) (.int .i64 e.k.c)).set (i * 4 + 3) (.bool e.on)
  | [], i, e, h => by simp at h
  | p :: l, 0, e, _ => rfl
  | p :: l, i + 1, e, h => by
    have ih := rflat_set l i e (by simpa using h)
    show p.cs ++ rflat (l.set i e) = ((((p.cs ++ rflat l).set ((i + 1) * 4) _).set ((i + 1) * 4 + 1) _).set ((i + 1) * 4 + 2) _).set ((i + 1) * 4 + 3) _
    rw [ih, show (i + 1) * 4 = i * 4 + 4 by omega, show i * 4 + 4 + 1 = i * 4 + 1 + 4 by omega, show i * 4 + 4 + 2 = i * 4 + 2 + 4 by omega, show i * 4 + 4 + 3 = i * 4 + 3 + 4 by omega]
    rfl
/-- the world behind the store of an entry -/
def wset (w : World) (g o : Nat) (e : RE) : World := (((w.setCell ⟨g, o, none⟩ (.int .i64 e.k.a)).setCell ⟨g, o + 1, none⟩ (.int .i64 e.k.b)).setCell ⟨g, o + 2, none⟩ (.int .i64 e.k.c)).setCell ⟨g, o + 3, none⟩ (.bool e.on)
section
variable {w w' : World} {rb : Nat} {v : Value} {l : List RE}
theorem wset_other {w : World} {g o k : Nat} {e : RE} (h : k ≠ g) : (wset w g o e).heap[k]? = w.heap[k]? := by
  unfold wset
  rw [Below.heap_setCell _ _ _ _ (by exact h), Below.heap_setCell _ _ _ _ (by exact h), Below.heap_setCell _ _ _ _ (by exact h), Below.heap_setCell _ _ _ _ (by exact h)]
theorem Rf.ne {g n c : Nat} (h : Rf w rb (.slice (some ⟨g, 0, none⟩) n c) l) : rb ≠ g := fun q => by
  rcases h.r.2 with ⟨e, _⟩ | ⟨g', cap, cur, e, _, hgg, _⟩
  · cases e
  · cases e
    rw [← q, h.b] at hgg
    cases hgg
theorem Rf.fz {g n c : Nat} (h : Rf w rb (.slice (some ⟨g, 0, none⟩) n c) l) (i : Nat) : w.frozen? ⟨g, i, none⟩ = false := by
  rcases h.r.2 with ⟨e, _⟩ | ⟨g', cap, cur, e, _, hgg, _⟩
  · cases e
  · cases e
    exact Go.Proofs.Ytbaffgkopgbknaa.fz hgg i
theorem Rf.set {g n c : Nat} (h : Rf w rb (.slice (some ⟨g, 0, none⟩) n c) l) {i : Nat} (e : RE) (hi : i < l.length) : Rf (wset w g (i * 4) e) rb (.slice (some ⟨g, 0, none⟩) n c) (l.set i e) := by
  refine ⟨(wset_other h.ne).trans h.b, by rw [rflat_len], ?_⟩
  rcases h.r.2 with ⟨q, _⟩ | ⟨g', cap, cur, q, hb, hgg, h1, h2, h3, h4⟩
  · cases q
  · cases q
    refine .inr ⟨g, c, _, by rw [List.length_set], hb, setB (setB (setB (setB hgg _) _) _) _, by rw [List.length_set]; exact h1, h2, by simp only [Array.size_setIfInBounds]; exact h3, ?_⟩
    rw [List.length_set, rflat_set l i e hi]
    simp only [Array.toList_setIfInBounds, List.take_set, h4]
def re0 : RE := ⟨⟨0, 0, 0⟩, false⟩
set_option maxHeartbeats 1000000 in
theorem rrem_no (x : Int) (H27 : Hid (Calls Try.prog 27 #[.pointer (some ⟨rb, 0, none⟩), .int .i64 x] w fun e w' => e = .returned (.tuple #[.agg #[.int .i64 0, .int .i64 0, .int .i64 0], .int .i64 3]) ∧ Below w.heap.size w w')) : Calls Try.prog 26 #[.pointer (some ⟨rb, 0, none⟩), .int .i64 x] w fun e w' => e = .returned (.int .i64 3) ∧ Below w.heap.size w w' := by
  go_enter Try.func26, Try.ntmps26
  go_wp2_with (go_at_call 27; refine H27.out.mono ?_; rintro e w1 ⟨rfl, b1⟩)
  go_ret
  exact ⟨rfl, b1.alloc b1.size _⟩
set_option maxHeartbeats 1000000 in
theorem rrem_yes (h : Hid (Rf w rb v l)) (i : Nat) (k : K) (hi : i < l.length) (hs : l.length ≤ 1048576) (H27 : Hid (Calls Try.prog 27 #[.pointer (some ⟨rb, 0, none⟩), .int .i64 i] w fun e w' => e = .returned (.tuple #[.agg #[.int .i64 k.a, .int .i64 k.b, .int .i64 k.c], .int .i64 0]) ∧ Below w.heap.size w w')) :
    Calls Try.prog 26 #[.pointer (some ⟨rb, 0, none⟩), .int .i64 i] w fun e w' => e = .returned (.int .i64 0) ∧ Rf w' rb v (l.set i re0) ∧ Kp (fun j => v.ownBlock = some j) w w' := by
  obtain ⟨g, c, rfl⟩ := h.out.row (by intro q; rw [q] at hi; simp at hi)
  have HI : Hid (i < l.length ∧ l.length ≤ 1048576) := ⟨hi, hs⟩
  have hil' : (i : Int) < (l.length : Int) := by omega
  have hi0 : 0 ≤ (i : Int) := by omega
  clear hi hs
  go_enter Try.func26, Try.ntmps26
  go_upto_region 3 with (go_at_call 27; refine H27.out.mono ?_; rintro e w1 ⟨rfl, b1⟩)
  have b2 : Hid (Below w.heap.size w (w1.alloc (.cells #[.int .i64 k.a, .int .i64 k.b, .int .i64 k.c] 45))) := b1.alloc b1.size _
  clear b1
  generalize w1.alloc (.cells #[.int .i64 k.a, .int .i64 k.b, .int .i64 k.c] 45) = W at *
  have R2 : Hid (Rf W rb (.slice (some ⟨g, 0, none⟩) l.length c) l) := h.out.keep b2.out
  have k1 := c1 R2.out.b
  obtain ⟨e, he⟩ : ∃ e, l[i]? = some e := ⟨_, List.getElem?_eq_getElem HI.out.1⟩
  have p0 := R2.out.cell he (j := 0) rfl (by decide)
  have p1 := R2.out.cell he (j := 1) rfl (by decide)
  have p2 := R2.out.cell he (j := 2) rfl (by decide)
  have p3 := R2.out.cell he (j := 3) rfl (by decide)
  rw [Nat.add_zero] at p0
  have f0 := R2.out.fz (i * 4)
  have f1 := R2.out.fz (i * 4 + 1)
  have f2 := R2.out.fz (i * 4 + 2)
  have f3 := R2.out.fz (i * 4 + 3)
  have HR : Hid (Rf (wset W g (i * 4) re0) rb (.slice (some ⟨g, 0, none⟩) l.length c) (l.set i re0) ∧ Kp (fun j => (Value.slice (some ⟨g, 0, none⟩) l.length c).ownBlock = some j) w (wset W g (i * 4) re0)) := by
    refine ⟨R2.out.set re0 HI.out.1, ?_⟩
    have k2 : Kp (fun j => (Value.slice (some ⟨g, 0, none⟩) l.length c).ownBlock = some j) w W := Kp.of_below b2.out
    refine (((k2.trans (Kp.of_set _ ⟨g, i * 4, none⟩ _ rfl) fun _ _ q => congrArg some q).trans (Kp.of_set _ ⟨g, i * 4 + 1, none⟩ _ rfl) fun _ _ q => congrArg some q).trans (Kp.of_set _ ⟨g, i * 4 + 2, none⟩ _ rfl) fun _ _ q => congrArg some q).trans (Kp.of_set _ ⟨g, i * 4 + 3, none⟩ _ rfl) fun _ _ q => congrArg some q
  clear he h H27 b2 R2
  unfold wset re0 at HR
  go_wp2_with fail
  go_ret
  exact ⟨rfl, HR.out.1, HR.out.2⟩
end
end Go.Proofs.Ytbaffgkopgbknaa
