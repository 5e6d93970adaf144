/-
  A zero queue; awake.
-/
import Derived.Test.YthlbeofonbbbdaaRc
namespace Go.Proofs.Ythlbeofonbbbdaa
open Go.RowKit Go.Maps Go.WideMaps

theorem que_zero {w : World} {pb : Nat} (hc : w.heap[pb]? = some (.cells #[.map none, .map none] 54 (0, 0))) (N : Nat) : Que w (· = pb) pb [] N := by
  refine ⟨⟨fun _ => none, none, none, [], [], ⟨⟨hc, rfl, (fun _ h => nomatch h), (fun _ h => nomatch h), List.Pairwise.nil, (fun _ h => nomatch h), Nat.zero_le _⟩, ⟨rfl, (fun _ h => nomatch h), List.Pairwise.nil, (fun _ h => nomatch h), (fun _ h => nomatch h), (fun _ h => nomatch h), (fun _ h => nomatch h), (fun _ h => nomatch h), (fun _ h => nomatch h), Nat.zero_le _⟩, fun _ => rfl, (fun _ h => nomatch h), fun _ _ => rfl⟩, List.Perm.refl _, List.Pairwise.nil, fun k hk => ?_⟩, fun k hk => ?_⟩
  · rcases hk with (h | h | h | ⟨a, ha, _⟩) | ⟨x, hx, _⟩
    · exact h
    · cases h
    · cases h
    · cases ha
    · cases hx
  · rw [show k = pb from hk]
    exact (Array.getElem?_eq_some_iff.1 hc).1
/-- behind a push on an empty queue -/
def Pz (w w' : World) (pb : Nat) (D : List J) : Prop := ∃ S', Que w' S' pb D 1 ∧ Kp (· = pb) w w' ∧ ∀ k, S' k → k = pb ∨ w.heap.size ≤ k
theorem push_zero (w : World) (pb : Nat) (x : J) (hz : x.tn.length ≤ 281474976710656) (hc : w.heap[pb]? = some (.cells #[.map none, .map none] 54 (0, 0))) :
    Calls Try.prog 12 #[.pointer (some ⟨pb, 0, none⟩), .agg #[.int .i64 x.job, .string ⟨⟨x.tn⟩⟩, .int .i64 x.pr]] w fun e w' => e = .returned (.int .i64 (pushD [] x).1) ∧ Hid (Pz w w' pb (pushD [] x).2) := by
  unfold pushD
  cases hx : x.ok with
  | false =>
    refine (push_bad w pb x ⟨⟨x.tn⟩⟩ hx).mono fun e w' ⟨he, hb⟩ => ⟨he, _, (que_zero hc 1).keepB hb, Kp.of_below hb, fun k hk => .inl hk⟩
  | true =>
    obtain ⟨h1, h2, h3, h4⟩ := ok_pr hx
    refine (push_raw w pb x.job x.pr ⟨⟨x.tn⟩⟩ (fun w' => Pz w w' pb [x]) (by omega) (by omega) (by omega) (by omega) (fun w1 b => ?_) (fun w1 b => ?_)).mono fun e w' ⟨he, hb⟩ => ⟨he, hb⟩
    · have hc1 := at_below b (Nat.le_refl _) hc
      exact qfind_raw w1 pb none x.job _ (c2 hc1).1 (look_W (w := w1) (mw := none) (l := []) (show MW w1 none [] from rfl) x.job (wf_ok hx))
    · have hc1 := at_below b (Nat.le_refl _) hc
      refine (first_any w1 pb x ⟨⟨x.tn⟩⟩ rfl hz hx hc1).mono fun e w' ⟨he, S', h1, h2, h3⟩ => ⟨he, S', h1, ?_, fun k hk => ?_⟩
      · exact (Kp.of_below b (S := fun _ => False)).mono (fun _ _ e => e.elim) |>.trans h2 fun _ _ e => e
      · rcases h3 k hk with q | q
        · exact .inl q
        · exact .inr (Nat.le_trans b.size q)
def awX : J := ⟨2, [97], 5⟩
theorem aw_push : pushD [] awX = (0, [awX]) := by decide
theorem aw_head : headD [awX] [97] = (awX, 0) := by decide
set_option maxHeartbeats 1000000 in
set_option maxRecDepth 100000 in
theorem awakeQ (w : World) : Calls Try.prog 8 #[] w fun e w' => e = .returned (.bool true) ∧ Hid (Below w.heap.size w w') := by
  have HN := newQ_any w
  have HP : Hid (Calls Try.prog 12 #[.pointer (some ⟨w.heap.size, 0, none⟩), .agg #[.int .i64 2, .string ⟨#[97]⟩, .int .i64 5]] (w.alloc (.cells #[.map none, .map none] 54 (0, 0))) fun e w' => e = .returned (.int .i64 0) ∧ Hid (Pz (w.alloc (.cells #[.map none, .map none] 54 (0, 0))) w' w.heap.size [awX])) := by
    have := push_zero (w.alloc (.cells #[.map none, .map none] 54 (0, 0))) w.heap.size awX (by decide) new0
    rw [aw_push] at this
    exact this
  have HH : Hid (∀ W, Pz (w.alloc (.cells #[.map none, .map none] 54 (0, 0))) W w.heap.size [awX] → Calls Try.prog 15 #[.pointer (some ⟨w.heap.size, 0, none⟩), .string ⟨#[97]⟩] W fun e w' => e = .returned (.tuple #[.agg #[.int .i64 2, .string ⟨#[97]⟩, .int .i64 5], .int .i64 0]) ∧ Hid (Below W.heap.size W w')) := fun W ⟨S, h, _, _⟩ => by
    have := qhead_any h ⟨#[97]⟩ (by decide)
    rw [show (⟨#[97]⟩ : ByteArray).data.toList = [97] from rfl, aw_head] at this
    exact this
  have HL : Hid (∀ W W', Pz (w.alloc (.cells #[.map none, .map none] 54 (0, 0))) W w.heap.size [awX] → Below W.heap.size W W' → Calls Try.prog 11 #[.pointer (some ⟨w.heap.size, 0, none⟩)] W' fun e w' => e = .returned (.int .i64 1) ∧ w' = W') := fun W W' ⟨S, h, _, _⟩ b => qlen_any (h.keepB b)
  go_enter Try.func8, Try.ntmps8
  go_wp2_with (first
    | (go_at_call 9; refine HN.mono ?_; rintro e w1 ⟨rfl, h1⟩; obtain rfl := h1.symm)
    | (go_at_call 12; refine HP.out.mono ?_; rintro e w2 ⟨rfl, h2⟩)
    | (go_at_call 15; refine (HH.out _ h2.out).mono ?_; rintro e w3 ⟨rfl, h3⟩)
    | (go_at_call 11; refine (HL.out w2 _ h2.out (h3.out.alloc h3.out.size _)).mono ?_; rintro e w4 ⟨rfl, h4⟩; obtain rfl := h4.symm))
  go_ret
  refine ⟨rfl, ?_⟩
  obtain ⟨S, -, hk, -⟩ := h2.out
  have b1 : Below w.heap.size w (w.alloc (.cells #[.map none, .map none] 54 (0, 0))) := (Below.refl _ w).alloc (Nat.le_refl _) _
  have b2 : Below w.heap.size w w2 := b1.trans (hk.below (by simp) fun k h1 e => by omega)
  have b3 : Below w.heap.size w w3 := b2.trans (h3.out.mono b2.size)
  exact b3.alloc b3.size _
end Go.Proofs.Ythlbeofonbbbdaa
