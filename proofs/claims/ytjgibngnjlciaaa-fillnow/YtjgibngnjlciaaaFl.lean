/-
  The laws' awake.
-/
import Derived.Test.YtjgibngnjlciaaaFk
namespace Go.Proofs.Ytjgibngnjlciaaa
open Go.RowKit Go.Maps

def aT18 : List V := [⟨4, 0, 0, 0⟩]
def aR18 : List V := [⟨3, 0, 0, 0⟩]
def aS18 : List Sl := [⟨[97], ⟨1, 0, 0, 0⟩⟩]
def aV18 (a b : Nat) : Vi := ⟨1, 10, some ⟨a, 0, none⟩, 1, 1, some ⟨b, 0, none⟩, 1, 1, aR18, [[97]]⟩
theorem st_awake (a b : Nat) : startR 0 aT18 [aV18 a b] aS18 = (10, [[97]], 0) := by
  have h1 : (fitR aT18 aS18).1 = 6 := by decide +kernel
  have h3 : (gvG [aV18 a b] aS18).1 = 0 := by
    unfold gvG gvG
    have e : movR addR (aV18 a b).T (aV18 a b).N aS18 = (0, [⟨[97], ⟨4, 0, 0, 0⟩⟩]) := by
      show movR addR aR18 [[97]] aS18 = _
      decide +kernel
    rw [e]; rfl
  have h5 : stA 0 [aV18 a b] aS18 10 = [⟨[97], ⟨4, 0, 0, 0⟩⟩] := by rfl
  have h6 : fitR aT18 [⟨[97], ⟨4, 0, 0, 0⟩⟩] = (0, [[97]]) := by decide +kernel
  have h7 : staN 0 aT18 [aV18 a b] aS18 = some 10 := by
    refine staN_some.2 ⟨cand_mem.2 (.inr ⟨aV18 a b, List.mem_singleton.2 rfl, rfl⟩), ?_, fun u hu hf => ?_⟩
    · unfold fitT; rw [h5, h6]
    · rcases cand_mem.1 hu with rfl | ⟨r, hr, rfl⟩
      · unfold fitT at hf
        rw [stA_now, h1] at hf
        cases hf
      · rw [List.mem_singleton.1 hr]
        exact Int.le_refl _
  rw [startR_some (by rfl) (.inr h1) h3 h7, h5, h6]
set_option maxHeartbeats 1000000 in
set_option maxRecDepth 100000 in
theorem awake18 (w : World) : Calls Try.prog 7 #[] w fun e w' => e = .returned (.bool true) ∧ Below w.heap.size w w' := by
  have H15 : Hid (∀ (W : World) (a b d e f : Nat), W.heap[a]? = some (.cells #[.int .i64 3, .int .i64 0, .int .i64 0, .int .i64 0] 48 (0, 0)) → W.heap[b]? = some (.cells #[.string ⟨#[97]⟩] 9 (0, 0)) → W.heap[d]? = some (.cells #[.int .i64 4, .int .i64 0, .int .i64 0, .int .i64 0] 48 (0, 0)) →
      W.heap[e]? = some (.cells #[.int .i64 1, .int .i64 10, .slice (some ⟨a, 0, none⟩) 1 1, .slice (some ⟨b, 0, none⟩) 1 1] 44 (0, 0)) → W.heap[f]? = some (.cells #[.string ⟨#[97]⟩, .int .i64 1, .int .i64 0, .int .i64 0, .int .i64 0] 50 (0, 0)) →
      Calls Try.prog 9 #[.int .i64 0, .slice (some ⟨d, 0, none⟩) 1 1, .slice (some ⟨e, 0, none⟩) 1 1, .slice (some ⟨f, 0, none⟩) 1 1] W fun r w' => ∃ gn on cn, r = .returned (.tuple #[.int .i64 10, .slice (some ⟨gn, on, none⟩) 1 cn, .int .i64 0]) ∧ w'.cell? ⟨gn, on, none⟩ = some (.string ⟨#[97]⟩) ∧ Hid (Below W.heap.size W w')) := fun W a b d e f ha hb hd he hf => by
    have tT : ∀ g x, W.heap[g]? = some (.cells #[.int .i64 x, .int .i64 0, .int .i64 0, .int .i64 0] 48 (0, 0)) → TA W (some ⟨g, 0, none⟩) [⟨x, 0, 0, 0⟩] := fun g x hg i v hv => by
      refine ⟨_, 0, rfl, fun j u hu => ?_⟩
      match i, hv, j, hu with
      | 0, hv, 0, hu => cases hv; cases hu; exact Lib.cell_of_heap hg 0
      | 0, hv, 1, hu => cases hv; cases hu; exact Lib.cell_of_heap hg 1
      | 0, hv, 2, hu => cases hv; cases hu; exact Lib.cell_of_heap hg 2
      | 0, hv, 3, hu => cases hv; cases hu; exact Lib.cell_of_heap hg 3
    have oV : (aV18 a b).ok W := by
      refine ⟨(by show in64 1; decide), (by show in64 10; decide), tT a 3 ha, (fun e => nomatch e), rfl, fun i v hv => ?_, (fun e => nomatch e), rfl, fun s hs => ?_, by show 1 ≤ _; omega, by show 1 ≤ _; omega⟩
      · refine ⟨_, 0, rfl, fun j u hu => ?_⟩
        match i, hv, j, hu with
        | 0, hv, 0, hu => cases hv; cases hu; exact Lib.cell_of_heap hb 0
      · obtain rfl := List.mem_singleton.1 hs
        show 1 ≤ _; omega
    refine (start_any 0 (some ⟨d, 0, none⟩) (some ⟨e, 0, none⟩) (some ⟨f, 0, none⟩) 1 1 1 1 1 1 aT18 [aV18 a b] aS18 W ⟨tT d 4 hd, rfl, ⟨fun i v hv => ?_, fun s hs => ?_, (fun e => nomatch e), rfl⟩, fun i v hv => ?_, fun v hv => ?_, rfl, by omega, by omega, by omega, (fun e => nomatch e)⟩).mono ?_
    · refine ⟨_, 0, rfl, fun j u hu => ?_⟩
      match i, hv, j, hu with
      | 0, hv, 0, hu => cases hv; cases hu; exact Lib.cell_of_heap hf 0
      | 0, hv, 1, hu => cases hv; cases hu; exact Lib.cell_of_heap hf 1
      | 0, hv, 2, hu => cases hv; cases hu; exact Lib.cell_of_heap hf 2
      | 0, hv, 3, hu => cases hv; cases hu; exact Lib.cell_of_heap hf 3
      | 0, hv, 4, hu => cases hv; cases hu; exact Lib.cell_of_heap hf 4
    · obtain rfl := List.mem_singleton.1 hs
      show 1 ≤ _; omega
    · refine ⟨_, 0, rfl, fun j u hu => ?_⟩
      match i, hv, j, hu with
      | 0, hv, 0, hu => cases hv; cases hu; exact Lib.cell_of_heap he 0
      | 0, hv, 1, hu => cases hv; cases hu; exact Lib.cell_of_heap he 1
      | 0, hv, 2, hu => cases hv; cases hu; exact Lib.cell_of_heap he 2
      | 0, hv, 3, hu => cases hv; cases hu; exact Lib.cell_of_heap he 3
    · obtain rfl := List.mem_singleton.1 hv
      exact oV
    · rintro r w' ⟨p, k, c, rfl, h1, h2, h3⟩
      have h4 := h3.out
      rw [st_awake] at h4 h1 ⊢
      have h6 : k = 1 := h1.symm
      subst h6
      obtain ⟨g', o', rfl, c1⟩ := h4.1 0 _ rfl
      exact ⟨g', o', c, rfl, c1 0 _ rfl, h4.2⟩
  go_enter Try.func7, Try.ntmps7
  go_upto_region 2 with fail
  have NA := at_alloc (o := .cells #[.int .i64 1, .int .i64 10, .slice (some ⟨w.heap.size, 0, none⟩) 1 1, .slice (some ⟨w.heap.size + 1, 0, none⟩) 1 1] 44) (first0 (w := w) (A := .cells #[.int .i64 3, .int .i64 0, .int .i64 0, .int .i64 0] 48) (B := .cells #[.string ⟨#[97]⟩] 9))
  have NB := at_alloc (o := .cells #[.int .i64 1, .int .i64 10, .slice (some ⟨w.heap.size, 0, none⟩) 1 1, .slice (some ⟨w.heap.size + 1, 0, none⟩) 1 1] 44) (first1 (w := w) (A := .cells #[.int .i64 3, .int .i64 0, .int .i64 0, .int .i64 0] 48) (B := .cells #[.string ⟨#[97]⟩] 9))
  have NC := new2 (w := w) (A := .cells #[.int .i64 3, .int .i64 0, .int .i64 0, .int .i64 0] 48) (B := .cells #[.string ⟨#[97]⟩] 9) (C := .cells #[.int .i64 1, .int .i64 10, .slice (some ⟨w.heap.size, 0, none⟩) 1 1, .slice (some ⟨w.heap.size + 1, 0, none⟩) 1 1] 44)
  have BW : Hid (Below w.heap.size w (((w.alloc (.cells #[.int .i64 3, .int .i64 0, .int .i64 0, .int .i64 0] 48)).alloc (.cells #[.string ⟨#[97]⟩] 9)).alloc (.cells #[.int .i64 1, .int .i64 10, .slice (some ⟨w.heap.size, 0, none⟩) 1 1, .slice (some ⟨w.heap.size + 1, 0, none⟩) 1 1] 44))) := (((Below.refl _ w).alloc (Nat.le_refl _) _).alloc (by simp) _).alloc (by simp; omega) _
  generalize ((w.alloc (.cells #[.int .i64 3, .int .i64 0, .int .i64 0, .int .i64 0] 48)).alloc (.cells #[.string ⟨#[97]⟩] 9)).alloc (.cells #[.int .i64 1, .int .i64 10, .slice (some ⟨w.heap.size, 0, none⟩) 1 1, .slice (some ⟨w.heap.size + 1, 0, none⟩) 1 1] 44) = W3 at *
  have c0 := Lib.cell_of_heap NC 0
  have c1 := Lib.cell_of_heap NC 1
  have c2 := Lib.cell_of_heap NC 2
  have c3 := Lib.cell_of_heap NC 3
  have hlt := (Array.getElem?_eq_some_iff.1 NC).1
  go_wp2_with (go_at_call 9; refine (H15.out _ _ _ _ _ _ (at_alloc (at_alloc (at_alloc NA))) (at_alloc (at_alloc (at_alloc NB))) (at_alloc first0) (at_alloc first1) new2).mono ?_; rintro e w7 ⟨gn, on, cn, rfl, y1, b7⟩)
  go_ret
  exact ⟨rfl, below_from BW.out ((((Below.refl _ W3).alloc (Nat.le_refl _) _).alloc (by simp) _).alloc (by simp; omega) _ |>.trans (b7.out.mono (by simp; omega))) BW.out.size⟩
end Go.Proofs.Ytjgibngnjlciaaa
