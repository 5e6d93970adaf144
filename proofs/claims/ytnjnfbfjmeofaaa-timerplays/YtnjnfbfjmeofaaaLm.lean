/-
  Before; TimerRings' mathematics.
-/
import Derived.Test.YtnjnfbfjmeofaaaLk
import Derived.Lib.QuietBelow
namespace Go.Proofs.Ytnjnfbfjmeofaaa
open Go.RowKit Go.Maps Go.WideMaps Go.Sort

set_option maxHeartbeats 1000000 in
theorem before_any (a b : Al) (w : World) : Calls Try.prog 17 #[.agg #[.string a.nm, .int .i64 a.at'], .agg #[.string b.nm, .int .i64 b.at']] w fun e w' => e = .returned (.bool (ltB a b)) ∧ Below w.heap.size w w' := by
  obtain ⟨an, aa⟩ := a
  obtain ⟨bn, ba⟩ := b
  simp only
  go_enter Try.func17, Try.ntmps17
  by_cases h1 : aa < ba
  · have h1' : decide (aa < ba) = true := decide_eq_true h1
    go_wp2_with fail
    go_ret
    refine ⟨ret_b ?_, by go_grown⟩
    unfold ltB
    simp [h1]
  · have h1' : decide (aa < ba) = false := decide_eq_false h1
    by_cases h2 : aa = ba
    · subst h2
      go_wp2_with fail
      go_ret
      refine ⟨ret_b ?_, by go_grown⟩
      unfold ltB
      rw [less_eq, Lib.toList_data, Lib.toList_data]
      simp
    · have h2' : (aa == ba) = false := by simpa using h2
      go_wp2_with fail
      go_ret
      refine ⟨ret_b ?_, by go_grown⟩
      unfold ltB
      simp [h1, h2]
theorem srt_at {R : List Al} (h : Srt R) {a : Al} {r : List Al} (e : R = a :: r) : ∀ b ∈ R, a.at' ≤ b.at' := by
  subst e
  intro b hb
  rcases List.mem_cons.1 hb with rfl | hb
  · exact Int.le_refl _
  · exact at_le (lt_le ((List.pairwise_cons.1 h).1 b hb))
theorem dw_gt {R : List Al} (h : Srt R) (now : Int) : ∀ a ∈ dw now R, now < a.at' := by
  have hs : Srt (dw now R) := List.Pairwise.sublist (List.dropWhile_sublist _) h
  intro a ha
  cases hd : dw now R with
  | nil => rw [hd] at ha; cases ha
  | cons b r =>
    have h1 := srt_at hs hd a ha
    have h2 : decide (b.at' ≤ now) = false := by
      have := List.head?_dropWhile_not (fun a : Al => decide (a.at' ≤ now)) R
      unfold dw at hd
      rw [hd] at this
      simpa using this
    have := of_decide_eq_false h2
    omega
theorem pw_le (now : Int) : ∀ {R : List Al}, ∀ a ∈ pw now R, a.at' ≤ now
  | [], a, ha => by cases ha
  | b :: r, a, ha => by
    unfold pw at ha
    rw [List.takeWhile_cons] at ha
    split at ha
    · rename_i h
      rcases List.mem_cons.1 ha with rfl | ha
      · simpa using h
      · exact pw_le now a ha
    · cases ha
theorem pw_srt {R : List Al} (h : Srt R) (now : Int) : Srt (pw now R) := List.Pairwise.sublist (List.takeWhile_sublist _) h
theorem srt_next {T : List Al} (h : Srt T) {i : Nat} (hi : i + 1 < T.length) : ltB (gt T i) (gt T (i + 1)) = true := by
  have h1 := List.pairwise_iff_getElem.1 h i (i + 1) (by omega) hi (by omega)
  have e1 : gt T i = T[i] := gt_of (List.getElem?_eq_getElem (by omega))
  have e2 : gt T (i + 1) = T[i + 1] := gt_of (List.getElem?_eq_getElem hi)
  rw [e1, e2]
  exact h1
/-- between the rounds: what has rung, and what hasn't -/
structure Rg (w0 w : World) (cb : Nat) (R : List Al) (rung : Nat) (last now : Int) : Prop where
  g : ∃ P Q, P ++ Q = R ∧ rung = P.length ∧ LL w0 w cb NX Q ∧ (∀ a ∈ Q, last < a.at') ∧ (32768 < now → Q = [])
theorem grown {W : World} {f : FuncId} {args : Array Value} {v : Value} (H : Hid (∀ w, Calls Try.prog f args w fun e w' => e = .returned v ∧ Below w.heap.size w w')) :
    Hid (∀ d os, Calls Try.prog f args (grow (redrawn W d) os) fun e w'' => e = .returned v ∧ ∃ p : Regrown, w'' = grow (redrawn W p.d) p.os) := fun _ _ => Calls.regrown_of (H.out _)
theorem LL.srt {w0 w : World} {cb : Nat} {X : Nat → Option Obj} {R : List Al} (h : LL w0 w cb X R) : Srt R := by
  obtain ⟨S, h⟩ := h
  exact h.k.s
end Go.Proofs.Ytnjnfbfjmeofaaa
