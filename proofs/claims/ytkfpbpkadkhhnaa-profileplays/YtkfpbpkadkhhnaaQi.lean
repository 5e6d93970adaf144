/-
  Plain mathematics: the earliest tick among a tick and the ends behind it.
-/
import Derived.Test.YtkfpbpkadkhhnaaQe
namespace Go.Proofs.Ytkfpbpkadkhhnaa

def cnd (a : Int) (E : List Int) : List Int := a :: E.filter fun e => decide (a < e)
theorem cnd_take {a : Int} {E : List Int} {i : Nat} {x : Int} (h : E[i]? = some x) : cnd a (E.take (i + 1)) = if a < x then cnd a (E.take i) ++ [x] else cnd a (E.take i) := by
  unfold cnd
  rw [List.take_add_one, h]
  show a :: List.filter _ (E.take i ++ [x]) = _
  rw [List.filter_append]
  by_cases q : a < x
  · rw [if_pos q]; simp [q]
  · rw [if_neg q]; simp [q]
theorem cnd_ris {a : Int} {E : List Int} (h : Ris E) : Ris (cnd a E) := by
  unfold cnd Ris
  rw [List.pairwise_cons]
  refine ⟨fun x hx => ?_, ?_⟩
  · rw [List.mem_filter] at hx
    simpa using hx.2
  · exact List.Pairwise.filter _ h
theorem cnd_mem {a : Int} {E : List Int} {x : Int} : x ∈ cnd a E ↔ x = a ∨ x ∈ E ∧ a < x := by unfold cnd; simp
/-- a candidate from which v is free for n ticks, as far as candidates tell -/
def okc (f : Int → V) (l : List Int) (n : Int) (v : V) (i k : Nat) : Prop := ∀ (j : Nat) (x y : Int), l[i]? = some x → l[j]? = some y → i ≤ j → j < k → y < x + n → v.le (f y)
/-- the last candidate that isn't behind u -/
theorem cnd_last {a : Int} {E : List Int} (h : Ris E) {u : Int} (hu : a ≤ u) : ∃ (k : Nat) (y : Int), (cnd a E)[k]? = some y ∧ y ≤ u ∧ (∀ e ∈ E, ¬ (y < e ∧ e ≤ u)) ∧ ∀ (j : Nat) (z : Int), (cnd a E)[j]? = some z → z ≤ u → j ≤ k := by
  have hr := cnd_ris (a := a) h
  have key : ∀ m, m ≤ (cnd a E).length → 0 < m → (∃ (k : Nat) (y : Int), k < m ∧ (cnd a E)[k]? = some y ∧ y ≤ u ∧ ∀ (j : Nat) (z : Int), (cnd a E)[j]? = some z → j < m → z ≤ u → j ≤ k) := by
    intro m
    induction m with
    | zero => intro _ h0; omega
    | succ m ih =>
      intro hm _
      by_cases h0 : m = 0
      · subst h0
        exact ⟨0, a, by omega, rfl, hu, fun j z _ hj _ => by omega⟩
      · obtain ⟨k, y, k1, k2, k3, k4⟩ := ih (by omega) (by omega)
        have hz := List.getElem?_eq_getElem (show m < (cnd a E).length by omega)
        by_cases q : (cnd a E)[m] ≤ u
        · exact ⟨m, _, by omega, hz, q, fun j z _ hj _ => by omega⟩
        · refine ⟨k, y, by omega, k2, k3, fun j z hj hjm hzu => ?_⟩
          by_cases e : j = m
          · subst e; rw [hz] at hj; cases hj; exact absurd hzu q
          · exact k4 j z hj (by omega) hzu
  obtain ⟨k, y, k1, k2, k3, k4⟩ := key (cnd a E).length (Nat.le_refl _) (by simp [cnd])
  refine ⟨k, y, k2, k3, fun e he q => ?_, fun j z hj hz => k4 j z hj (List.getElem?_eq_some_iff.1 hj).1 hz⟩
  have hya : a ≤ y := by
    cases k with
    | zero => simp [cnd] at k2; omega
    | succ k => have := hr.lt (i := 0) (j := k + 1) (by omega) rfl k2; omega
  obtain ⟨j, hj⟩ := List.getElem?_of_mem (cnd_mem.2 (.inr ⟨he, by omega⟩) : e ∈ cnd a E)
  have h1 := k4 j e hj (List.getElem?_eq_some_iff.1 hj).1 q.2
  by_cases e' : j = k
  · subst e'; rw [k2] at hj; cases hj; omega
  · have := hr.lt (show j < k by omega) hj k2; omega
theorem okc_fre {C : V} {T : List Opr} {E : List Int} (hE : Ends T E) {a n : Int} {v : V} {i : Nat} {x : Int} (hx : (cnd a E)[i]? = some x) (h : okc (fT C T) (cnd a E) n v i (cnd a E).length) : Fre (fT C T) n v x := fun u h1 h2 => by
  have hr := cnd_ris (a := a) hE.r
  have hax : a ≤ x := by
    cases i with
    | zero => simp [cnd] at hx; omega
    | succ k => have := hr.lt (i := 0) (j := k + 1) (by omega) rfl hx; omega
  obtain ⟨k, y, k1, k2, k3, k4⟩ := cnd_last hE.r (show a ≤ u by omega)
  have hik := k4 i x hx h1
  rw [← fT_const hE k2 k3]
  exact h k x y hx k1 hik (List.getElem?_eq_some_iff.1 k1).1 (by omega)
theorem fre_okc {f : Int → V} {l : List Int} (hr : Ris l) {n : Int} {v : V} {i : Nat} {x : Int} (hx : l[i]? = some x) (h : Fre f n v x) (k : Nat) : okc f l n v i k := fun j x' y hx' hy hij _ hlt => by
  rw [hx] at hx'
  cases hx'
  refine h y ?_ hlt
  by_cases e : i = j
  · subst e; rw [hx] at hy; cases hy; exact Int.le_refl _
  · exact Int.le_of_lt (hr.lt (by omega) hx hy)
/-- the first candidate that will do is the earliest tick -/
theorem cnd_ear {C : V} {T : List Opr} {E : List Int} (hE : Ends T E) {a n : Int} {v : V} (_hn : 1 ≤ n) {i : Nat} {x : Int} (hx : (cnd a E)[i]? = some x) (h : okc (fT C T) (cnd a E) n v i (cnd a E).length) (hno : ∀ j, j < i → ¬ okc (fT C T) (cnd a E) n v j (cnd a E).length) : Ear (fT C T) a n v x := by
  have hr := cnd_ris (a := a) hE.r
  refine ⟨?_, okc_fre hE hx h, fun t h1 h2 hf => ?_⟩
  · cases i with
    | zero => simp [cnd] at hx; omega
    | succ k => have := hr.lt (i := 0) (j := k + 1) (by omega) rfl hx; omega
  · obtain ⟨k, y, k1, k2, k3, k4⟩ := cnd_last hE.r h1
    have hki : k < i := by
      apply Classical.byContradiction
      intro q
      by_cases e : k = i
      · subst e; rw [hx] at k1; cases k1; omega
      · have := hr.lt (show i < k by omega) hx k1; omega
    refine hno k hki (fre_okc hr k1 (fun u u1 u2 => ?_) _)
    by_cases hut : u ≤ t
    · rw [fT_const (C := C) hE hut fun e he q => k3 e he ⟨by omega, by omega⟩]
      exact hf t (Int.le_refl _) (by omega)
    · exact hf u (by omega) (by omega)
/-- the last candidate will do -/
theorem cnd_some {C : V} {T : List Opr} {E : List Int} (hE : Ends T E) {a n : Int} {v : V} (hv : v.le C) : okc (fT C T) (cnd a E) n v ((cnd a E).length - 1) (cnd a E).length := fun j x y hx hy hij hj _ => by
  have hr := cnd_ris (a := a) hE.r
  have hl : 0 < (cnd a E).length := by simp [cnd]
  rw [fT_end hE fun e he => ?_]
  · exact hv
  · obtain rfl : j = (cnd a E).length - 1 := by omega
    by_cases q : a < e
    · obtain ⟨k, hk⟩ := List.getElem?_of_mem (cnd_mem.2 (.inr ⟨he, q⟩) : e ∈ cnd a E)
      have hkl := (List.getElem?_eq_some_iff.1 hk).1
      by_cases e' : k = (cnd a E).length - 1
      · rw [e'] at hk; rw [hy] at hk; cases hk; exact Int.le_refl _
      · exact Int.le_of_lt (hr.lt (by omega) hk hy)
    · have hay : a ≤ y := by
        by_cases e' : (cnd a E).length - 1 = 0
        · rw [e'] at hy; simp [cnd] at hy; omega
        · have := hr.lt (i := 0) (j := (cnd a E).length - 1) (by omega) rfl hy; omega
      omega
theorem okc_step {f : Int → V} {l : List Int} {n : Int} {v : V} {i k : Nat} {x y : Int} (hx : l[i]? = some x) (hy : l[k]? = some y) (hik : i ≤ k) : okc f l n v i (k + 1) ↔ okc f l n v i k ∧ (x + n ≤ y ∨ v.le (f y)) := by
  constructor
  · intro h
    refine ⟨fun j x' y' a b c d e => h j x' y' a b c (by omega) e, ?_⟩
    by_cases q : x + n ≤ y
    · exact .inl q
    · exact .inr (h k x y hx hy hik (by omega) (by omega))
  · rintro ⟨h1, h2⟩ j x' y' a b c d e
    by_cases q : j = k
    · subst q
      rw [hx] at a
      rw [hy] at b
      cases a
      cases b
      rcases h2 with h2 | h2
      · omega
      · exact h2
    · exact h1 j x' y' a b c (by omega) e
theorem okc_self {f : Int → V} {l : List Int} {n : Int} {v : V} {i : Nat} : okc f l n v i i := fun j x y _ _ c d _ => by omega
end Go.Proofs.Ytkfpbpkadkhhnaa
