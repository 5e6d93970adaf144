/-
  The next victim of a line.
-/
import Derived.Test.YtcfnonfghlgphaaGc
namespace Go.Proofs.Ytcfnonfghlgphaa
open Go.RowKit Go.Maps

set_option maxHeartbeats 1000000 in
set_option maxRecDepth 100000 in
theorem next_raw0 (w : World) (lb : Nat) (H41 : Hid (Calls Try.prog 41 #[.pointer (some ⟨lb, 0, none⟩)] w fun e w' => e = .returned (.pointer none) ∧ Below w.heap.size w w')) :
    Calls Try.prog 23 #[.pointer (some ⟨lb, 0, none⟩)] w fun e w' => e = .returned (.tuple #[.int .i64 0, .int .i64 3]) ∧ Below w.heap.size w w' := by
  have H42 : Hid (∀ w, Calls Try.prog 42 #[.pointer none] w fun e w' => e = .returned (.tuple #[.int .i64 0, .agg #[.int .i64 0, .int .i64 0, .int .i64 0], .int .i64 3]) ∧ Below w.heap.size w w') := fun w => Hp.pmin_nil w
  go_enter Try.func23, Try.ntmps23
  go_upto_region 2 with (first | (go_at_call 41; refine H41.out.mono ?_; rintro e w1 ⟨rfl, b1⟩) | (go_at_call 42; refine (H42.out _).mono ?_; rintro e w2 ⟨rfl, b2⟩))
  have B2 : Hid (Below w.heap.size w (w2.alloc (.cells #[.int .i64 0, .int .i64 0, .int .i64 0] 91))) := (below_from b1 b2 b1.size).alloc (Nat.le_trans b1.size b2.size) _
  generalize w2.alloc (.cells #[.int .i64 0, .int .i64 0, .int .i64 0] 91) = W at *
  go_wp2_with fail
  go_ret2
  exact ⟨rfl, B2.out⟩
set_option maxHeartbeats 1000000 in
set_option maxRecDepth 100000 in
theorem next_raw (w : World) (lb hb : Nat) (a b c : Int) (hc : in64 c) (R : World → Prop) (H41 : Hid (Calls Try.prog 41 #[.pointer (some ⟨lb, 0, none⟩)] w fun e w' => e = .returned (.pointer (some ⟨hb, 0, none⟩)) ∧ Below w.heap.size w w'))
    (H42 : Hid (∀ w1, Below w.heap.size w w1 → Calls Try.prog 42 #[.pointer (some ⟨hb, 0, none⟩)] w1 fun e w' => ∃ x : Int, e = .returned (.tuple #[.int .i64 x, .agg #[.int .i64 a, .int .i64 b, .int .i64 c], .int .i64 0]) ∧ Hid (∀ w2, Below w'.heap.size w' w2 → R w2))) :
    Calls Try.prog 23 #[.pointer (some ⟨lb, 0, none⟩)] w fun e w' => e = .returned (.tuple #[.int .i64 (-1 - c), .int .i64 0]) ∧ Hid (R w') := by
  have H43 : Hid (∀ w, Calls Try.prog 43 #[.agg #[.int .i64 a, .int .i64 b, .int .i64 c]] w fun e w' => e = .returned (.int .i64 (-1 - c)) ∧ Below w.heap.size w w') := fun w => jobOf_raw a b c w hc
  go_enter Try.func23, Try.ntmps23
  go_upto_region 2 with (first | (go_at_call 41; refine H41.out.mono ?_; rintro e w1 ⟨rfl, b1⟩) | (go_at_call 42; refine (H42.out _ b1).mono ?_; rintro e w2 ⟨x, rfl, h2⟩))
  have N2 := new0 (w := w2) (o := .cells #[.int .i64 a, .int .i64 b, .int .i64 c] 91)
  have B2 : Hid (Below w2.heap.size w2 (w2.alloc (.cells #[.int .i64 a, .int .i64 b, .int .i64 c] 91))) := (Below.refl _ _).alloc (Nat.le_refl _) _
  generalize w2.alloc (.cells #[.int .i64 a, .int .i64 b, .int .i64 c] 91) = W at *
  have e0 := Lib.cell_of_heap N2 0
  have e1 := Lib.cell_of_heap N2 1
  have e2 := Lib.cell_of_heap N2 2
  have hlt2 := (Array.getElem?_eq_some_iff.1 N2).1
  go_wp2_with (go_at_call 43; refine (H43.out _).mono ?_; rintro e w3 ⟨rfl, b3⟩)
  go_ret2
  exact ⟨rfl, h2.out _ (below_from B2.out b3 B2.out.size)⟩
section
variable {w0 w w' : World} {lb : Nat} {R : List Vi} {T : Nat → Prop} {v : Vi}
theorem next_none (h : LnS w0 w lb [] T) : Calls Try.prog 23 #[.pointer (some ⟨lb, 0, none⟩)] w fun e w' => e = .returned (.tuple #[.int .i64 0, .int .i64 3]) ∧ Below w.heap.size w w' := by
  refine next_raw0 w lb ?_
  rcases h.m with ⟨a1, a2⟩ | ⟨hb, gr, c, g, C, P, h1⟩
  · exact fore_0 w lb a2
  · refine fore_none w lb gr hb c h1.c0 h1.c1 fun w1 b1 => ?_
    have := h1.len
    have hl := (h1.below b1).l
    rw [this] at hl
    exact Hp.lw_ends0 hl rfl
theorem next_some (h : LnS w0 w lb (v :: R) T) : Calls Try.prog 23 #[.pointer (some ⟨lb, 0, none⟩)] w fun e w' => e = .returned (.tuple #[.int .i64 v.j, .int .i64 0]) ∧ Hid (LnS w0 w' lb R T ∧ ∀ k, T k → w'.heap[k]? = w.heap[k]?) := by
  rcases h.m with ⟨a1, a2⟩ | ⟨hb, gr, c, g, C, P, h1⟩
  · cases a1
  · have hn : P.length ≠ 0 := by rw [h1.len]; simp
    have hv := h.o v (List.mem_cons_self ..)
    have H41 := fore_some w lb gr hb c v.p (-1 - v.s) (-1 - v.j) h1.c0 h1.c1 fun w1 b1 => by
      obtain ⟨x, k, e1, _, _, e2⟩ := Hp.lw_ends (h1.below b1).l hn (s := 0) rfl
      obtain ⟨rfl, _⟩ := (h1.below b1).first h.u h.s e1
      exact e2.mono fun e w' q => ⟨x, q.1, q.2⟩
    have H23 := next_raw w lb hb v.p (-1 - v.s) (-1 - v.j) (by omega) (fun w2 => LnS w0 w2 lb R T ∧ ∀ k, T k → w2.heap[k]? = w.heap[k]?) H41 fun w1 b1 => by
      have h2 := h1.below b1
      obtain ⟨x, k, e1, _, _, e2⟩ := Hp.lw_pop h2.l hn (s := 0) rfl
      obtain ⟨rfl, P', hP⟩ := h2.first h.u h.s e1
      refine e2.mono fun e w' q => ⟨x, q.1, fun w2 b2 => ?_⟩
      obtain ⟨-, q2, q3⟩ := q
      have hk : ∀ k, T k → w2.heap[k]? = w.heap[k]? := fun k hk => by
        rw [b2.block k (q2.t k (.inl hk)), q3 k (.inl hk), b1.block k (h.t k hk)]
      have c0' : w2.cell? ⟨lb, 0, none⟩ = some (.slice (some ⟨gr, 0, none⟩) 1 c) := by
        rw [← h1.c0]
        refine cell_eq ?_
        have : lb < w.heap.size := cell_lt h1.c0
        show w2.heap[lb]? = w.heap[lb]?
        rw [b2.block lb (q2.t lb (.inr (.inl rfl))), q3 lb (.inr (.inl rfl)), b1.block lb this]
      have c1' : w2.cell? ⟨gr, 0, none⟩ = some (.pointer (some ⟨hb, 0, none⟩)) := by
        rw [← h1.c1]
        refine cell_eq ?_
        have : gr < w.heap.size := cell_lt h1.c1
        show w2.heap[gr]? = w.heap[gr]?
        rw [b2.block gr (q2.t gr (.inr (.inr rfl))), q3 gr (.inr (.inr rfl)), b1.block gr this]
      have l2 := q2.below b2
      exact ⟨⟨l2.b, fun k e => l2.t k (.inl e), h.tl, (List.pairwise_cons.1 h.u).2, (List.pairwise_cons.1 h.s).2, fun u hu => h.o u (List.mem_cons_of_mem _ hu), h.ll, .inr ⟨hb, gr, c, g, _, P', hP l2 c0' c1'⟩⟩, hk⟩
    refine H23.mono fun e w' q => ?_
    have e1 : -1 - (-1 - v.j) = v.j := by omega
    rw [e1] at q
    exact q
end
end Go.Proofs.Ytcfnonfghlgphaa
