/-
  The journal's Sync and Get.
-/
import Derived.Test.YtplcpjngpkghmaaJf
namespace Go.Proofs.Ytplcpjngpkghmaa
open Go.RowKit Go.Maps
variable {P : Nat → Obj → Prop}

set_option maxHeartbeats 400000 in
theorem lsy_over (w : World) (p : Value) (H : Hid (Calls Try.prog 42 #[p] w fun e w' => e = .returned (.bool true) ∧ w' = w)) :
    Calls Try.prog 26 #[p] w fun e w' => e = .returned (.int .i64 11) ∧ w' = w := by
  go_enter Try.func26, Try.ntmps26
  go_wp2_with (go_at_call 42; refine H.out.mono ?_)
  rintro e w1 ⟨rfl, rfl⟩
  go_wp2_with fail
  go_ret
  exact ⟨rfl, rfl⟩
set_option maxHeartbeats 400000 in
theorem ltr_over (w : World) (p : Value) (n : Int) (H : Hid (Calls Try.prog 42 #[p] w fun e w' => e = .returned (.bool true) ∧ w' = w)) :
    Calls Try.prog 25 #[p, .int .i64 n] w fun e w' => e = .returned (.int .i64 11) ∧ w' = w := by
  go_enter Try.func25, Try.ntmps25
  go_wp2_with (go_at_call 42; refine H.out.mono ?_)
  rintro e w1 ⟨rfl, rfl⟩
  go_wp2_with fail
  go_ret
  exact ⟨rfl, rfl⟩
set_option maxHeartbeats 1000000 in
theorem lsy_ok {w0 w : World} {pb lb first : Nat} {D : DK} {l : List RC} {tg lt : Nat → Tg} (h : Hid (LJ P w0 w pb lb D (some ⟨pb, 0, none⟩) first l tg lt)) (D' : DK) (hA : Hid (syncD D nmL = (0, D'))) :
    Calls Try.prog 26 #[.pointer (some ⟨lb, 0, none⟩)] w fun e w' => e = .returned (.int .i64 0) ∧ LJ P w0 w' pb lb D' (some ⟨pb, 0, none⟩) first l tg lt := by
  obtain ⟨v, hg⟩ := h.out.g
  obtain ⟨e0, e1, e2⟩ := k3 hg.cell
  have H42 : Hid (Calls Try.prog 42 #[.pointer (some ⟨lb, 0, none⟩)] w fun e w' => e = .returned (.bool false) ∧ w' = w) := over_no w lb _ _ _ hg.cell
  have H29 : Hid (Calls Try.prog 29 #[.pointer (some ⟨pb, 0, none⟩), .string ⟨#[108, 111, 103]⟩] w fun e w' => e = .returned (.int .i64 0) ∧ LJ P w0 w' pb lb D' (some ⟨pb, 0, none⟩) first l tg lt) := by
    have := sync_any h.out.d ⟨⟨nmL⟩⟩ (by decide)
    have hA' : syncD D (⟨⟨nmL⟩⟩ : ByteArray).data.toList = (0, D') := hA.out
    rw [hA'] at this
    refine this.mono ?_
    rintro e w' ⟨rfl, d, st⟩
    exact ⟨rfl, h.out.left d st⟩
  clear hg
  go_enter Try.func26, Try.ntmps26
  go_wp2_with (go_at_call 42; refine H42.out.mono ?_)
  rintro e w1 ⟨rfl, rfl⟩
  go_wp2_with (go_at_call 29; refine H29.out.mono ?_)
  rintro e w2 ⟨rfl, h2⟩
  have H2 : Hid (LJ P w0 w2 pb lb D' (some ⟨pb, 0, none⟩) first l tg lt) := h2
  clear h2
  go_wp2_with (go_at_call 44; refine (opr_ok w2 _).mono ?_)
  rintro e w3 ⟨rfl, rfl⟩
  go_wp2_with fail
  go_ret
  exact ⟨rfl, H2.out⟩

/-! ### Get -/
set_option maxHeartbeats 400000 in
theorem get_nil (w : World) (n : Int) : Calls Try.prog 23 #[.pointer none, .int .i64 n] w fun e w' => e = .returned (.tuple #[.slice none 0 0, .int .i64 2]) ∧ w' = w := by
  have H1 : Hid (Calls Try.prog 21 #[.pointer none] w fun e w' => e = .returned (.int .i64 0) ∧ w' = w) := first_nil w
  have H2 : Hid (Calls Try.prog 22 #[.pointer none] w fun e w' => e = .returned (.int .i64 0) ∧ w' = w) := next_nil w
  by_cases h0 : n < 0
  · go_enter Try.func23, Try.ntmps23
    go_wp2_with (first | (go_at_call 21; refine H1.out.mono ?_; rintro e w1 ⟨rfl, rfl⟩) | (go_at_call 22; refine H2.out.mono ?_; rintro e w2 ⟨rfl, rfl⟩))
    all_goals go_ret2
    all_goals exact ⟨rfl, rfl⟩
  · have h1 : 0 ≤ n := by omega
    clear h0
    go_enter Try.func23, Try.ntmps23
    go_wp2_with (first | (go_at_call 21; refine H1.out.mono ?_; rintro e w1 ⟨rfl, rfl⟩) | (go_at_call 22; refine H2.out.mono ?_; rintro e w2 ⟨rfl, rfl⟩))
    all_goals go_ret2
    all_goals exact ⟨rfl, rfl⟩
set_option maxHeartbeats 2000000 in
theorem get_ok {w0 w : World} {pb lb first : Nat} {D : DK} {pt : Option Addr} {l : List RC} {tg lt : Nat → Tg} (h : Hid (LJ P w0 w pb lb D pt first l tg lt)) (k : Nat) (r : RC) (hr : Hid (l[k]? = some r)) (hk : k < l.length) (hfb : first + l.length < 4611686018427387904) :
    Calls Try.prog 23 #[.pointer (some ⟨lb, 0, none⟩), .int .i64 ((first : Int) + k)] w fun e w' => ∃ q c, e = .returned (.tuple #[.slice q r.b.length c, .int .i64 0]) ∧ Own w' w.heap.size (.slice q r.b.length c) r.b ∧ Below w.heap.size w w' := by
  obtain ⟨v, hg⟩ := h.out.g
  obtain ⟨z1, z3, hv⟩ : ∃ z1 z3, v = .slice z1 l.length z3 := by
    rcases hg.own.2 with ⟨rfl, h0⟩ | ⟨g, cap, cur, rfl, _⟩
    · omega
    · exact ⟨_, _, rfl⟩
  subst hv
  have HG : Hid (LgAt w lt lb pt first (.slice z1 l.length z3) l) := hg
  obtain ⟨g, hz1, hcr⟩ : ∃ g, z1 = some ⟨g, 0, none⟩ ∧ w.cell? ⟨g, k, none⟩ = some (.slice r.a r.b.length r.c) := by
    rcases hg.own.2 with ⟨_, h0⟩ | ⟨g, cap, cur, e, _⟩
    · omega
    · cases e
      have := World.ownsRow.cells hg.own (g := g) rfl k (RC.v r) (by rw [List.getElem?_map, hr.out]; rfl)
      rw [Addr.add_lit, Nat.zero_add] at this
      exact ⟨g, rfl, this⟩
  subst hz1
  have hR := hg.fl r (List.mem_of_getElem? hr.out)
  have hLr : Lies w r.a r.b := by
    rcases hR.row with h1 | ⟨g', o', h1, h2, _⟩
    · exact .inl h1
    · exact .inr ⟨g', o', h1, h2⟩
  have H1 : Hid (Calls Try.prog 21 #[.pointer (some ⟨lb, 0, none⟩)] w fun e w' => e = .returned (.int .i64 first) ∧ w' = w) := first_at w lb _ _ _ hg.cell
  have H2 : Hid (Calls Try.prog 22 #[.pointer (some ⟨lb, 0, none⟩)] w fun e w' => e = .returned (.int .i64 ((first : Int) + l.length)) ∧ Below w.heap.size w w') := next_at w lb _ _ _ _ _ (by omega) (by omega) hg.cell
  have HL : Hid (Lies w r.a r.b ∧ (r.a = none → r.c = 0) ∧ r.b.length ≤ 4080) := ⟨hLr, hR.hz, hR.hl⟩
  have hlt1 : ¬ (first : Int) + k < (first : Int) := by omega
  have hlt2 : (first : Int) + k < (first : Int) + l.length := by omega
  have hcell := hg.cell
  have HC : Hid (w.heap[lb]? = some (.cells #[.pointer pt, .int .i64 first, .slice (some ⟨g, 0, none⟩) l.length z3] 77 (0, 0))) := hcell
  clear hg hR hLr hcell
  go_enter Try.func23, Try.ntmps23
  go_wp2_with (first | (go_at_call 21; refine H1.out.mono ?_; rintro e w1 ⟨rfl, rfl⟩) | (go_at_call 22; refine H2.out.mono ?_))
  first | rintro e w2 rfl b2 | rintro e w2 ⟨rfl, b2⟩
  have hcr2 := (b2.cell (block_lt_of_cell hcr)).trans hcr
  obtain ⟨e0, e1, e2⟩ := k3 (at_below b2 (Nat.le_refl _) HC.out)
  have B2 : Hid (Below w1.heap.size w1 w2) := b2
  have H45 : Hid (Calls Try.prog 45 #[.slice r.a r.b.length r.c] w2.drew fun e w' => ∃ q6 c6, e = .returned (.slice q6 r.b.length c6) ∧ Own w' w1.heap.size (.slice q6 r.b.length c6) r.b ∧ Below w1.heap.size w1 w') := by
    have := bc_any r.b r.a r.c w2.drew (by have := HL.out.2.2; omega) ((HL.out.1.keep b2 (Nat.le_refl _)).keep (Below.refl w2.heap.size w2).drew (Nat.le_refl _)) HL.out.2.1
    refine this.mono ?_
    rintro e w' ⟨q6, c6, rfl, o6, b6⟩
    exact ⟨q6, c6, rfl, o6.low b2.size, below_from b2 ((Below.refl _ w2).drew.trans b6) b2.size⟩
  have hsub : (first : Int) + k - first = (k : Int) := by omega
  have hki : (k : Int) < (l.length : Int) := by omega
  have hwr : IntKind.i64.wrap (k : Int) = (k : Int) := by rw [IntKind.wrap_i64]; omega
  clear b2 hcr
  go_wp2_with fail
  go_region_with (go_at_call 45; refine H45.out.mono ?_; rintro e w6 ⟨q6, c6, rfl, o6, b6⟩)
  all_goals go_wp2_with fail
  all_goals go_ret2
  all_goals exact ⟨q6, c6, rfl, o6, b6⟩
end Go.Proofs.Ytplcpjngpkghmaa
