/-
  The laws' awake and few.
-/
import Derived.Test.YtcfnonfghlgphaaGk
namespace Go.Proofs.Ytcfnonfghlgphaa
open Go.RowKit Go.Maps

def aT17 : List V := [⟨2, 0, 0, 0⟩]
def aS17 : List Sl := [⟨[97], ⟨0, 0, 0, 0⟩⟩]
def aV17 (a b : Nat) : Vi := ⟨1, 0, 0, some ⟨a, 0, none⟩, 1, 1, some ⟨b, 0, none⟩, 1, 1, aT17, [[97]]⟩
theorem ch_awake (a b : Nat) : (chR aT17 5 [aV17 a b] aS17).1 = 0 ∧ (chR aT17 5 [aV17 a b] aS17).2.1.map Vi.j = [1] ∧ (chR aT17 5 [aV17 a b] aS17).2.2 = [[97]] := by
  have h1 : (fitR aT17 aS17).1 = 6 := by decide +kernel
  have h2 : Uj [aV17 a b] := List.pairwise_singleton _ _
  have h3 : (gvG [aV17 a b] aS17).1 = 0 := by
    unfold gvG gvG
    have e : movR addR (aV17 a b).T (aV17 a b).N aS17 = (0, [⟨[97], ⟨2, 0, 0, 0⟩⟩]) := by
      show movR addR aT17 [[97]] aS17 = _
      decide +kernel
    rw [e]; rfl
  have h4 : blw 5 (srtV [aV17 a b]) = [aV17 a b] := rfl
  have h5 : slA [aV17 a b] aS17 = [⟨[97], ⟨2, 0, 0, 0⟩⟩] := by rfl
  have h6 : fitR aT17 [⟨[97], ⟨2, 0, 0, 0⟩⟩] = (0, [[97]]) := by decide +kernel
  rw [chR_some (.inr h1) h2 h3, h4, goA_some (k := 1) (goN_some (Nat.le_refl _) (by
    show (fitR aT17 (slA [aV17 a b] aS17)).1 = 0
    rw [h5, h6]) fun i hi => by
    obtain rfl : i = 0 := by omega
    rw [List.take_zero, slA_nil, h1]; decide)]
  refine ⟨rfl, rfl, ?_⟩
  show (fitR aT17 (slA [aV17 a b] aS17)).2 = _
  rw [h5, h6]
set_option maxHeartbeats 1000000 in
set_option maxRecDepth 100000 in
theorem awake17 (w : World) : Calls Try.prog 9 #[] w fun e w' => e = .returned (.bool true) ∧ Below w.heap.size w w' := by
  have H15 : Hid (∀ (W : World) (a b d e f : Nat), W.heap[a]? = some (.cells #[.int .i64 2, .int .i64 0, .int .i64 0, .int .i64 0] 53 (0, 0)) → W.heap[b]? = some (.cells #[.string ⟨#[97]⟩] 9 (0, 0)) → W.heap[d]? = some (.cells #[.int .i64 2, .int .i64 0, .int .i64 0, .int .i64 0] 53 (0, 0)) →
      W.heap[e]? = some (.cells #[.int .i64 1, .int .i64 0, .int .i64 0, .slice (some ⟨a, 0, none⟩) 1 1, .slice (some ⟨b, 0, none⟩) 1 1] 49 (0, 0)) → W.heap[f]? = some (.cells #[.string ⟨#[97]⟩, .int .i64 0, .int .i64 0, .int .i64 0, .int .i64 0] 55 (0, 0)) →
      Calls Try.prog 15 #[.slice (some ⟨d, 0, none⟩) 1 1, .int .i64 5, .slice (some ⟨e, 0, none⟩) 1 1, .slice (some ⟨f, 0, none⟩) 1 1] W fun r w' => ∃ gj oj cj gn on cn, r = .returned (.tuple #[.slice (some ⟨gj, oj, none⟩) 1 cj, .slice (some ⟨gn, on, none⟩) 1 cn, .int .i64 0]) ∧ w'.cell? ⟨gj, oj, none⟩ = some (.int .i64 1) ∧ w'.cell? ⟨gn, on, none⟩ = some (.string ⟨#[97]⟩) ∧ Hid (Below W.heap.size W w')) := fun W a b d e f ha hb hd he hf => by
    have tT : ∀ g, W.heap[g]? = some (.cells #[.int .i64 2, .int .i64 0, .int .i64 0, .int .i64 0] 53 (0, 0)) → TA W (some ⟨g, 0, none⟩) aT17 := fun g hg i v hv => by
      refine ⟨_, 0, rfl, fun j u hu => ?_⟩
      match i, hv, j, hu with
      | 0, hv, 0, hu => cases hv; cases hu; exact Lib.cell_of_heap hg 0
      | 0, hv, 1, hu => cases hv; cases hu; exact Lib.cell_of_heap hg 1
      | 0, hv, 2, hu => cases hv; cases hu; exact Lib.cell_of_heap hg 2
      | 0, hv, 3, hu => cases hv; cases hu; exact Lib.cell_of_heap hg 3
    have oV : (aV17 a b).ok W := by
      refine ⟨(by show in64 1; decide), (by show in64 0; decide), (by show in64 0; decide), tT a ha, (fun e => nomatch e), rfl, fun i v hv => ?_, (fun e => nomatch e), rfl, fun s hs => ?_, by show 1 ≤ _; omega, by show 1 ≤ _; omega⟩
      · refine ⟨_, 0, rfl, fun j u hu => ?_⟩
        match i, hv, j, hu with
        | 0, hv, 0, hu => cases hv; cases hu; exact Lib.cell_of_heap hb 0
      · obtain rfl := List.mem_singleton.1 hs
        show 1 ≤ _; omega
    refine (choose_any 5 aT17 [aV17 a b] aS17 (some ⟨d, 0, none⟩) (some ⟨e, 0, none⟩) (some ⟨f, 0, none⟩) 1 1 1 1 1 1 W ⟨tT d hd, (fun e => nomatch e), rfl, fun i v hv => ?_, fun v hv => ?_, rfl, ⟨fun i v hv => ?_, fun s hs => ?_, (fun e => nomatch e), rfl⟩, by omega, by omega, by omega⟩).mono ?_
    · refine ⟨_, 0, rfl, fun j u hu => ?_⟩
      match i, hv, j, hu with
      | 0, hv, 0, hu => cases hv; cases hu; exact Lib.cell_of_heap he 0
      | 0, hv, 1, hu => cases hv; cases hu; exact Lib.cell_of_heap he 1
      | 0, hv, 2, hu => cases hv; cases hu; exact Lib.cell_of_heap he 2
      | 0, hv, 3, hu => cases hv; cases hu; exact Lib.cell_of_heap he 3
      | 0, hv, 4, hu => cases hv; cases hu; exact Lib.cell_of_heap he 4
    · obtain rfl := List.mem_singleton.1 hv
      exact oV
    · refine ⟨_, 0, rfl, fun j u hu => ?_⟩
      match i, hv, j, hu with
      | 0, hv, 0, hu => cases hv; cases hu; exact Lib.cell_of_heap hf 0
      | 0, hv, 1, hu => cases hv; cases hu; exact Lib.cell_of_heap hf 1
      | 0, hv, 2, hu => cases hv; cases hu; exact Lib.cell_of_heap hf 2
      | 0, hv, 3, hu => cases hv; cases hu; exact Lib.cell_of_heap hf 3
      | 0, hv, 4, hu => cases hv; cases hu; exact Lib.cell_of_heap hf 4
    · obtain rfl := List.mem_singleton.1 hs
      show 1 ≤ _; omega
    · rintro r w' ⟨pj, kj, cj, pn, kn, cn, rfl, h1, h2, h3⟩
      obtain ⟨q1, q2, q3⟩ := ch_awake a b
      have h4 := h3.out
      rw [q2, q3] at h4
      rw [q3] at h2
      have h5 : kj = 1 := by rw [← h1, ← List.length_map (f := Vi.j), q2]; rfl
      have h6 : kn = 1 := h2.symm
      subst h5 h6
      obtain ⟨g, o, rfl, c0⟩ := (h4.1.ga jC_len) 0 _ rfl
      obtain ⟨g', o', rfl, c1⟩ := h4.2.1 0 _ rfl
      exact ⟨g, o, cj, g', o', cn, by rw [q1]; rfl, c0 0 _ rfl, c1 0 _ rfl, h4.2.2⟩
  go_enter Try.func9, Try.ntmps9
  go_upto_region 2 with fail
  have NA := at_alloc (o := .cells #[.int .i64 1, .int .i64 0, .int .i64 0, .slice (some ⟨w.heap.size, 0, none⟩) 1 1, .slice (some ⟨w.heap.size + 1, 0, none⟩) 1 1] 49) (first0 (w := w) (A := .cells #[.int .i64 2, .int .i64 0, .int .i64 0, .int .i64 0] 53) (B := .cells #[.string ⟨#[97]⟩] 9))
  have NB := at_alloc (o := .cells #[.int .i64 1, .int .i64 0, .int .i64 0, .slice (some ⟨w.heap.size, 0, none⟩) 1 1, .slice (some ⟨w.heap.size + 1, 0, none⟩) 1 1] 49) (first1 (w := w) (A := .cells #[.int .i64 2, .int .i64 0, .int .i64 0, .int .i64 0] 53) (B := .cells #[.string ⟨#[97]⟩] 9))
  have NC := new2 (w := w) (A := .cells #[.int .i64 2, .int .i64 0, .int .i64 0, .int .i64 0] 53) (B := .cells #[.string ⟨#[97]⟩] 9) (C := .cells #[.int .i64 1, .int .i64 0, .int .i64 0, .slice (some ⟨w.heap.size, 0, none⟩) 1 1, .slice (some ⟨w.heap.size + 1, 0, none⟩) 1 1] 49)
  have BW : Hid (Below w.heap.size w (((w.alloc (.cells #[.int .i64 2, .int .i64 0, .int .i64 0, .int .i64 0] 53)).alloc (.cells #[.string ⟨#[97]⟩] 9)).alloc (.cells #[.int .i64 1, .int .i64 0, .int .i64 0, .slice (some ⟨w.heap.size, 0, none⟩) 1 1, .slice (some ⟨w.heap.size + 1, 0, none⟩) 1 1] 49))) := (((Below.refl _ w).alloc (Nat.le_refl _) _).alloc (by simp) _).alloc (by simp; omega) _
  generalize ((w.alloc (.cells #[.int .i64 2, .int .i64 0, .int .i64 0, .int .i64 0] 53)).alloc (.cells #[.string ⟨#[97]⟩] 9)).alloc (.cells #[.int .i64 1, .int .i64 0, .int .i64 0, .slice (some ⟨w.heap.size, 0, none⟩) 1 1, .slice (some ⟨w.heap.size + 1, 0, none⟩) 1 1] 49) = W3 at *
  have c0 := Lib.cell_of_heap NC 0
  have c1 := Lib.cell_of_heap NC 1
  have c2 := Lib.cell_of_heap NC 2
  have c3 := Lib.cell_of_heap NC 3
  have c4 := Lib.cell_of_heap NC 4
  have hlt := (Array.getElem?_eq_some_iff.1 NC).1
  go_wp2_with (go_at_call 15; refine (H15.out _ _ _ _ _ _ (at_alloc (at_alloc (at_alloc NA))) (at_alloc (at_alloc (at_alloc NB))) (at_alloc first0) (at_alloc first1) new2).mono ?_; rintro e w7 ⟨gj, oj, cj, gn, on, cn, rfl, y0, y1, b7⟩)
  go_ret
  exact ⟨rfl, below_from BW.out ((((Below.refl _ W3).alloc (Nat.le_refl _) _).alloc (by simp) _).alloc (by simp; omega) _ |>.trans (b7.out.mono (by simp; omega))) BW.out.size⟩
end Go.Proofs.Ytcfnonfghlgphaa
