/-
  Jobs that are done again and again from what is free.
-/
import Derived.Test.YtodldfgoieikcaaLf
namespace Go.Proofs.Ytodldfgoieikcaa
open Go.RowKit Go.Maps

theorem nodup_inj {F : List Int} (h : F.Nodup) {i j : Nat} {x : Int} (hi : F[i]? = some x) (hj : F[j]? = some x) : i = j := by
  obtain ⟨h1, e1⟩ := List.getElem?_eq_some_iff.1 hi
  obtain ⟨h2, e2⟩ := List.getElem?_eq_some_iff.1 hj
  have hp := List.pairwise_iff_getElem.1 h
  rcases Nat.lt_trichotomy i j with q | q | q
  · exact absurd (e1.trans e2.symm) (hp i j h1 h2 q)
  · exact q
  · exact absurd (e2.trans e1.symm) (hp j i h2 h1 q)
structure Qv (g : GS) (N : Nat) (F : List Int) (i : Nat) : Prop where
  d : F.Nodup
  m : ∀ y ∈ F, ∃ n : Nat, y = n ∧ 1 ≤ n ∧ n ≤ N
  e : ∀ (j n : Nat), j < i → F[j]? = some (n : Int) → g.st n = 2
  f : ∀ (j n : Nat), i ≤ j → F[j]? = some (n : Int) → frB g n = true
  a : ∀ n : Nat, 1 ≤ n → n ≤ N → frB g n = true → (n : Int) ∈ F
  s : ∀ n : Nat, 1 ≤ n → n ≤ N → g.st n = 1 ∨ (g.st n = 2 ∧ (n : Int) ∈ F)
  l : ∀ n j, n < 101 → j < 101 → g.ps n j = true → 1 ≤ j ∧ j < n
  z : ∀ n, n < 101 → (n = 0 ∨ N < n) → g.st n = 0
  b : N ≤ 100
theorem Qv.start {g : GS} {N : Nat} {F : List Int} (h : Gi g N) (hN : N ≤ 100) (hd : F.Nodup) (hm : ∀ y, y ∈ F ↔ ∃ n : Nat, y = n ∧ 1 ≤ n ∧ n ≤ N ∧ frB g n = true) : Qv g N F 0 := by
  refine ⟨hd, fun y hy => ?_, fun j n hj => absurd hj (by omega), fun j n _ hj => ?_, fun n h1 h2 h3 => (hm _).2 ⟨n, rfl, h1, h2, h3⟩, fun n h1 h2 => .inl (h.a n h1 h2), h.l, fun n hn hq => (h.z n hn hq).1, hN⟩
  · obtain ⟨n, h1, h2, h3, _⟩ := (hm y).1 hy
    exact ⟨n, h1, h2, h3⟩
  · obtain ⟨k, h1, h2, h3, h4⟩ := (hm _).1 (List.mem_of_getElem? hj)
    have : n = k := by omega
    rw [this]; exact h4
theorem Qv.len {g : GS} {N i : Nat} {F : List Int} (h : Qv g N F i) : F.length ≤ 100 := nodup_len h.d fun y hy => by
  obtain ⟨n, rfl, h1, h2⟩ := h.m y hy
  have := h.b
  exact isN_of h1 (by omega)
theorem sett_self (g : GS) (x v : Nat) : (g.sett x v).st x = v := by unfold GS.sett; simp
theorem sett_ne (g : GS) {x n : Nat} (v : Nat) (h : n ≠ x) : (g.sett x v).st n = g.st n := by unfold GS.sett; simp [h]
theorem Qv.fresh {g : GS} {N i x : Nat} {F : List Int} (h : Qv g N F i) (hx : F[i]? = some (x : Int)) : ∀ y ∈ lsI (fdS (g.sett x 2) x), y ∉ F ∧ freeB (g.sett x 2) y = true ∧ ∃ n : Nat, y = n ∧ 1 ≤ n ∧ n ≤ N := by
  intro y hy
  obtain ⟨n, rfl, hn, hf⟩ := mem_lsI.1 hy
  have hxs : g.st x = 1 := (frB_iff.1 (h.f i x (Nat.le_refl _) hx)).1
  unfold fdS at hf
  rw [Bool.and_eq_true] at hf
  obtain ⟨h1, h2⟩ := hf
  obtain ⟨k1, k2⟩ := frB_iff.1 h2
  have hne : n ≠ x := fun e => by rw [e, sett_self] at k1; omega
  rw [sett_ne g 2 hne] at k1
  obtain ⟨xx, ex, hx1, hx2⟩ := h.m _ (List.mem_of_getElem? hx)
  have exx : x = xx := by omega
  subst exx
  have hb := h.b
  have hp : g.ps n x = true := h1
  have hl := h.l n x hn (by omega) hp
  have hnN : n ≤ N := by
    by_cases q : n ≤ N
    · exact q
    · have := h.z n hn (by omega); omega
  refine ⟨fun q => ?_, ?_, n, rfl, by omega, hnN⟩
  · obtain ⟨j, hj⟩ := List.getElem?_of_mem q
    by_cases hji : j < i
    · have := h.e j n hji hj; omega
    · have := (frB_iff.1 (h.f j n (by omega) hj)).2 x (by omega) hp
      omega
  · have hhas : hasB (g.sett x 2) (n : Int) = true := hasB_iff.2 ⟨n, rfl, by omega, hn, by rw [sett_ne g 2 hne]; omega⟩
    rw [freeB_yes hhas]
    exact h2
theorem Qv.step {g : GS} {N i x : Nat} {F : List Int} (h : Qv g N F i) (hx : F[i]? = some (x : Int)) : Qv (g.sett x 2) N (F ++ lsI (fdS (g.sett x 2) x)) (i + 1) := by
  have hfr := h.fresh hx
  have hxs : g.st x = 1 := (frB_iff.1 (h.f i x (Nat.le_refl _) hx)).1
  have hil := (List.getElem?_eq_some_iff.1 hx).1
  obtain ⟨xx, ex, hx1, hx2⟩ := h.m _ (List.mem_of_getElem? hx)
  have exx : x = xx := by omega
  subst exx
  have hb := h.b
  have mono : ∀ n, g.st n = 2 → (g.sett x 2).st n = 2 := fun n hn => by
    by_cases e : n = x
    · rw [e, sett_self]
    · rw [sett_ne g 2 e]; exact hn
  have inj : ∀ (j : Nat), F[j]? = some (x : Int) → j = i := fun j hj => by
    exact nodup_inj h.d hj hx
  refine ⟨?_, fun y hy => ?_, fun j n hj hjn => ?_, fun j n hj hjn => ?_, fun n h1 h2 h3 => ?_, fun n h1 h2 => ?_, h.l, fun n hn hq => ?_, h.b⟩
  · rw [List.nodup_append]
    refine ⟨h.d, (lsI_ris _).nodup, fun a ha b hb e => ?_⟩
    exact (hfr b hb).1 (e ▸ ha)
  · rcases List.mem_append.1 hy with q | q
    · exact h.m y q
    · exact (hfr y q).2.2
  · rw [List.getElem?_append_left (by omega)] at hjn
    by_cases e : j = i
    · subst e
      rw [hx] at hjn
      have : x = n := by simp at hjn; omega
      rw [← this, sett_self]
    · exact mono n (h.e j n (by omega) hjn)
  · by_cases hjl : j < F.length
    · rw [List.getElem?_append_left hjl] at hjn
      have h4 := h.f j n (by omega) hjn
      obtain ⟨k1, k2⟩ := frB_iff.1 h4
      have hne : n ≠ x := fun e => by
        rw [e] at hjn
        have := inj j hjn
        omega
      exact frB_iff.2 ⟨by rw [sett_ne g 2 hne]; exact k1, fun m hm hp => mono m (k2 m hm hp)⟩
    · rw [List.getElem?_append_right (by omega)] at hjn
      obtain ⟨k, e, _, hk⟩ := mem_lsI.1 (List.mem_of_getElem? hjn)
      have : n = k := by omega
      rw [this]
      unfold fdS at hk
      rw [Bool.and_eq_true] at hk
      exact hk.2
  · rw [List.mem_append]
    obtain ⟨k1, k2⟩ := frB_iff.1 h3
    have hne : n ≠ x := fun e => by rw [e, sett_self] at k1; omega
    by_cases hp : g.ps n x = true
    · right
      refine mem_lsI.2 ⟨n, rfl, by omega, ?_⟩
      unfold fdS
      rw [Bool.and_eq_true]
      exact ⟨hp, h3⟩
    · left
      refine h.a n h1 h2 (frB_iff.2 ⟨by rw [sett_ne g 2 hne] at k1; exact k1, fun m hm hpm => ?_⟩)
      have h5 := k2 m hm hpm
      have : m ≠ x := fun e => hp (e ▸ hpm)
      rw [sett_ne g 2 this] at h5
      exact h5
  · by_cases e : n = x
    · right
      rw [e, sett_self]
      exact ⟨rfl, List.mem_append_left _ (List.mem_of_getElem? hx)⟩
    · rw [sett_ne g 2 e]
      rcases h.s n h1 h2 with q | q
      · exact .inl q
      · exact .inr ⟨q.1, List.mem_append_left _ q.2⟩
  · have : n ≠ x := fun e => by rcases hq with r | r <;> omega
    rw [sett_ne g 2 this]
    exact h.z n hn hq
theorem Qv.done {g : GS} {N : Nat} {F : List Int} (h : Qv g N F F.length) : F.length = N := by
  have hb := h.b
  have hall : ∀ n : Nat, 1 ≤ n → n ≤ N → (n : Int) ∈ F := by
    intro n
    induction n using Nat.strongRecOn with
    | ind n ih =>
      intro h1 h2
      rcases h.s n h1 h2 with q | q
      · refine h.a n h1 h2 (frB_iff.2 ⟨q, fun m hm hp => ?_⟩)
        have hl := h.l n m (by omega) hm hp
        have hmF := ih m hl.2 hl.1 (by omega)
        obtain ⟨j, hj⟩ := List.getElem?_of_mem hmF
        exact h.e j m (List.getElem?_eq_some_iff.1 hj).1 hj
      · exact q.2
  have hLd : ((List.range N).map fun n : Nat => (n : Int) + 1).Nodup := by
    rw [List.Nodup, List.pairwise_map]
    exact List.nodup_range.imp fun q e => q (by omega)
  have hLm : ∀ y, y ∈ ((List.range N).map fun n : Nat => (n : Int) + 1) ↔ ∃ n : Nat, y = n ∧ 1 ≤ n ∧ n ≤ N := fun y => by
    simp only [List.mem_map, List.mem_range]
    constructor
    · rintro ⟨n, h1, rfl⟩; exact ⟨n + 1, by omega, by omega, by omega⟩
    · rintro ⟨n, rfl, h1, h2⟩; exact ⟨n - 1, by omega, by omega⟩
  have hN1 : ∀ y ∈ F, isN y = true := fun y hy => by
    obtain ⟨n, rfl, h1, h2⟩ := h.m y hy
    exact isN_of h1 (by omega)
  have hN2 : ∀ y ∈ ((List.range N).map fun n : Nat => (n : Int) + 1), isN y = true := fun y hy => by
    obtain ⟨n, rfl, h1, h2⟩ := (hLm y).1 hy
    exact isN_of h1 (by omega)
  have a1 := sub_len h.d hLd hN2 fun y hy => (hLm y).2 (h.m y hy)
  have a2 := sub_len hLd h.d hN1 fun y hy => by
    obtain ⟨n, rfl, h1, h2⟩ := (hLm y).1 hy
    exact hall n h1 h2
  simp at a1 a2
  omega
end Go.Proofs.Ytodldfgoieikcaa
