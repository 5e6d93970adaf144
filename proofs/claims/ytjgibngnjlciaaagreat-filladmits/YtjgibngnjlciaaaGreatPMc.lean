/-
  Plain mathematics: the least that is free over a span; the earliest tick.
-/
import Derived.Test.YtjgibngnjlciaaaGreatPMb
namespace Go.Proofs.YtjgibngnjlciaaaGreat

theorem IsK.uniq {L : List Stp} {t : Int} {j k : Nat} (h : IsK L t j) (q : IsK L t k) : j = k := by
  have h1 := h.le
  have h2 := q.le
  rcases Nat.lt_trichotomy j k with hl | he | hg
  · have e := List.getElem?_eq_getElem (show j < L.length by omega)
    have a := h.hi j _ e (Nat.le_refl _)
    have b := q.lo j _ e hl
    omega
  · exact he
  · have e := List.getElem?_eq_getElem (show k < L.length by omega)
    have a := q.hi k _ e (Nat.le_refl _)
    have b := h.lo k _ e hg
    omega
theorem IsK.mono {L : List Stp} {t u : Int} {j k : Nat} (h : IsK L t j) (q : IsK L u k) (ht : t ≤ u) : j ≤ k := by
  apply Classical.byContradiction
  intro hn
  have h1 := h.le
  have e := List.getElem?_eq_getElem (show k < L.length by omega)
  have a := q.hi k _ e (Nat.le_refl _)
  have b := h.lo k _ e (by omega)
  omega
theorem isK_at {L : List Stp} (h : Srt L) {i : Nat} {s : Stp} (hi : L[i]? = some s) : IsK L s.at' (i + 1) := ⟨(List.getElem?_eq_some_iff.1 hi).1, fun j u hu hj => by
    by_cases e : j = i
    · subst e; rw [hi] at hu; cases hu; exact Int.le_refl _
    · exact Int.le_of_lt (h.lt (by omega) hu hi), fun j u hu hj => h.lt (by omega) hi hu⟩
/-- the least over a span -/
structure Lst (f : Int → V) (a b : Int) (m : V) : Prop where
  le : ∀ u, a ≤ u → u < b → m.le (f u)
  xa : ∃ u, a ≤ u ∧ u < b ∧ (f u).a = m.a
  xb : ∃ u, a ≤ u ∧ u < b ∧ (f u).b = m.b
  xc : ∃ u, a ≤ u ∧ u < b ∧ (f u).c = m.c
  xd : ∃ u, a ≤ u ∧ u < b ∧ (f u).d = m.d
theorem Lst.uniq {f : Int → V} {a b : Int} {m n : V} (h : Lst f a b m) (k : Lst f a b n) : m = n := by
  have key : ∀ {m n : V}, Lst f a b m → Lst f a b n → m.le n := fun h k => by
    obtain ⟨u1, p1, p2, p3⟩ := k.xa
    obtain ⟨u2, q1, q2, q3⟩ := k.xb
    obtain ⟨u3, r1, r2, r3⟩ := k.xc
    obtain ⟨u4, s1, s2, s3⟩ := k.xd
    have a1 := (h.le u1 p1 p2).1
    have a2 := (h.le u2 q1 q2).2.1
    have a3 := (h.le u3 r1 r2).2.2.1
    have a4 := (h.le u4 s1 s2).2.2.2
    exact ⟨by omega, by omega, by omega, by omega⟩
  exact V.le_antisymm (key h k) (key k h)
theorem Lst.le_iff {f : Int → V} {a b : Int} {m v : V} (h : Lst f a b m) : v.le m ↔ ∀ u, a ≤ u → u < b → v.le (f u) := by
  constructor
  · intro q u h1 h2
    exact V.le_trans q (h.le u h1 h2)
  · intro q
    obtain ⟨u1, p1, p2, p3⟩ := h.xa
    obtain ⟨u2, q1, q2, q3⟩ := h.xb
    obtain ⟨u3, r1, r2, r3⟩ := h.xc
    obtain ⟨u4, s1, s2, s3⟩ := h.xd
    have a1 := (q u1 p1 p2).1
    have a2 := (q u2 q1 q2).2.1
    have a3 := (q u3 r1 r2).2.2.1
    have a4 := (q u4 s1 s2).2.2.2
    exact ⟨by omega, by omega, by omega, by omega⟩
theorem Lst.congr {f g : Int → V} {a b : Int} {m : V} (h : Lst f a b m) (e : ∀ u, f u = g u) : Lst g a b m := by
  have : f = g := funext e
  rwa [← this]
/-- while the least is looked for -/
structure Lsq (C : V) (L : List Stp) (a b : Int) (p : Nat) (m : V) : Prop where
  k0 : ∃ k, IsK L a k ∧ k ≤ p
  pl : p ≤ L.length
  le : ∀ u k, a ≤ u → IsK L u k → k ≤ p → m.le (pv C L k)
  xa : ∃ u, a ≤ u ∧ u < b ∧ (fa C L u).a = m.a
  xb : ∃ u, a ≤ u ∧ u < b ∧ (fa C L u).b = m.b
  xc : ∃ u, a ≤ u ∧ u < b ∧ (fa C L u).c = m.c
  xd : ∃ u, a ≤ u ∧ u < b ∧ (fa C L u).d = m.d
theorem lsq_start {C : V} {L : List Stp} {a b : Int} {k : Nat} (h : IsK L a k) (hab : a < b) : Lsq C L a b k (pv C L k) := by
  have e := fa_k (C := C) h
  refine ⟨⟨k, h, Nat.le_refl _⟩, h.le, fun u j hu hj hk => ?_, ⟨a, by omega, hab, by rw [e]⟩, ⟨a, by omega, hab, by rw [e]⟩, ⟨a, by omega, hab, by rw [e]⟩, ⟨a, by omega, hab, by rw [e]⟩⟩
  have := h.mono hj hu
  obtain rfl : j = k := by omega
  exact V.le_refl _
theorem Lsq.step {C : V} {L : List Stp} {a b : Int} {p : Nat} {m : V} {s : Stp} (hs : Srt L) (h : Lsq C L a b p m) (hp : L[p]? = some s) (hb : s.at' < b) : Lsq C L a b (p + 1) (m.mn s.fr) := by
  obtain ⟨k, hk, hkp⟩ := h.k0
  have ha := hk.hi p s hp hkp
  have hl := (List.getElem?_eq_some_iff.1 hp).1
  have e : fa C L s.at' = s.fr := fa_at hs hp
  have pick : ∀ (x y : Int) (F : V → Int), (∃ u, a ≤ u ∧ u < b ∧ F (fa C L u) = x) → F s.fr = y → ∃ u, a ≤ u ∧ u < b ∧ F (fa C L u) = min x y := fun x y F h1 h2 => by
    obtain ⟨u, u1, u2, u3⟩ := h1
    by_cases q : x ≤ y
    · exact ⟨u, u1, u2, by omega⟩
    · exact ⟨s.at', by omega, hb, by rw [e]; omega⟩
  refine ⟨⟨k, hk, by omega⟩, by omega, fun u j hu hj hjp => ?_, pick _ _ V.a h.xa rfl, pick _ _ V.b h.xb rfl, pick _ _ V.c h.xc rfl, pick _ _ V.d h.xd rfl⟩
  have mn1 : (m.mn s.fr).le m := by unfold V.le V.mn; simp only; omega
  have mn2 : (m.mn s.fr).le s.fr := by unfold V.le V.mn; simp only; omega
  by_cases q : j ≤ p
  · exact V.le_trans mn1 (h.le u j hu hj q)
  · obtain rfl : j = p + 1 := by omega
    rw [pv_succ hp]
    exact mn2
theorem Lsq.done {C : V} {L : List Stp} {a b : Int} {p : Nat} {m : V} (hs : Srt L) (h : Lsq C L a b p m) (hp : ∀ s, L[p]? = some s → b ≤ s.at') : Lst (fa C L) a b m := by
  refine ⟨fun u h1 h2 => ?_, h.xa, h.xb, h.xc, h.xd⟩
  obtain ⟨k, hk⟩ := isK_ex hs u
  rw [fa_k hk]
  refine h.le u k h1 hk ?_
  apply Classical.byContradiction
  intro hn
  have hl := hk.le
  have e := List.getElem?_eq_getElem (show p < L.length by omega)
  have a1 := hp _ e
  have a2 := hk.lo p _ e (by omega)
  omega

/-! ### the earliest tick -/
def Fre (f : Int → V) (n : Int) (v : V) (t : Int) : Prop := ∀ u, t ≤ u → u < t + n → v.le (f u)
structure Ear (f : Int → V) (a n : Int) (v : V) (t : Int) : Prop where
  ge : a ≤ t
  ok : Fre f n v t
  no : ∀ s, a ≤ s → s < t → ¬ Fre f n v s
theorem Ear.uniq {f : Int → V} {a n : Int} {v : V} {t u : Int} (h : Ear f a n v t) (k : Ear f a n v u) : t = u := by
  rcases Int.lt_trichotomy t u with q | q | q
  · exact absurd h.ok (k.no t h.ge q)
  · exact q
  · exact absurd k.ok (h.no u k.ge q)
/-- while the earliest is looked for -/
structure Erq (C : V) (L : List Stp) (a n : Int) (v : V) (p : Nat) (t : Int) : Prop where
  ge : a ≤ t
  pl : p ≤ L.length
  k0 : ∃ k, IsK L a k ∧ k ≤ p
  ok : ∀ u k, t ≤ u → IsK L u k → k < p → v.le (pv C L k)
  no : ∀ s, a ≤ s → s < t → ¬ Fre (fa C L) n v s
  ps : t = a ∧ IsK L a p ∨ ∃ q r, p = q + 1 ∧ L[q]? = some r ∧ t ≤ r.at' ∧ r.at' - t < n
theorem erq_start {C : V} {L : List Stp} {a n : Int} {v : V} {k : Nat} (h : IsK L a k) : Erq C L a n v k a :=
  ⟨Int.le_refl _, h.le, ⟨k, h, Nat.le_refl _⟩, fun u j hu hj hk => absurd (h.mono hj hu) (by omega), fun s h1 h2 => absurd h1 (by omega), .inl ⟨rfl, h⟩⟩
theorem Erq.lt {C : V} {L : List Stp} {a n : Int} {v : V} {p : Nat} {t : Int} {s : Stp} (hs : Srt L) (h : Erq C L a n v p t) (hp : L[p]? = some s) : t < s.at' := by
  obtain ⟨k, hk, hkp⟩ := h.k0
  rcases h.ps with ⟨e, q⟩ | ⟨q, r, e1, e2, e3, e4⟩
  · have := q.hi p s hp (Nat.le_refl _)
    omega
  · have := hs.lt (show q < p by omega) e2 hp
    omega
theorem Erq.skip {C : V} {L : List Stp} {a n : Int} {v : V} {p : Nat} {t : Int} {s : Stp} (hs : Srt L) (hn : 0 < n) (h : Erq C L a n v p t) (hp : L[p]? = some s) (hf : ¬ v.le (pv C L p)) : Erq C L a n v (p + 1) s.at' := by
  obtain ⟨k, hk, hkp⟩ := h.k0
  have ht := h.lt hs hp
  have hl := (List.getElem?_eq_some_iff.1 hp).1
  refine ⟨by have := h.ge; omega, by omega, ⟨k, hk, by omega⟩, fun u j hu hj hjp => ?_, fun x hx1 hx2 hfr => ?_, .inr ⟨p, s, rfl, hp, Int.le_refl _, by omega⟩⟩
  · have := (isK_at hs hp).mono hj hu
    omega
  · by_cases hxt : x < t
    · exact h.no x hx1 hxt hfr
    · obtain ⟨j, hj⟩ := isK_ex hs x
      have hjp : j ≤ p := by
        apply Classical.byContradiction
        intro q
        have := hj.lo p s hp (by omega)
        omega
      by_cases hje : j = p
      · subst hje
        refine hf ?_
        have := hfr x (Int.le_refl _) (by omega)
        rwa [fa_k hj] at this
      · rcases h.ps with ⟨e, q⟩ | ⟨q, r, e1, e2, e3, e4⟩
        · have := q.mono hj (by omega)
          omega
        · have h1 := hj.hi q r e2 (by omega)
          refine hf ?_
          have := hfr r.at' (by omega) (by omega)
          rwa [fa_at hs e2, ← pv_succ (C := C) e2, ← e1] at this
theorem Erq.step {C : V} {L : List Stp} {a n : Int} {v : V} {p : Nat} {t : Int} {s : Stp} (hs : Srt L) (h : Erq C L a n v p t) (hp : L[p]? = some s) (hf : v.le (pv C L p)) (hd : s.at' - t < n) : Erq C L a n v (p + 1) t := by
  obtain ⟨k, hk, hkp⟩ := h.k0
  have ht := h.lt hs hp
  have hl := (List.getElem?_eq_some_iff.1 hp).1
  refine ⟨h.ge, by omega, ⟨k, hk, by omega⟩, fun u j hu hj hjp => ?_, h.no, .inr ⟨p, s, rfl, hp, by omega, hd⟩⟩
  by_cases e : j = p
  · subst e; exact hf
  · exact h.ok u j hu hj (by omega)
theorem Erq.found {C : V} {L : List Stp} {a n : Int} {v : V} {p : Nat} {t : Int} {s : Stp} (hs : Srt L) (h : Erq C L a n v p t) (hp : L[p]? = some s) (hf : v.le (pv C L p)) (hd : n ≤ s.at' - t) : Ear (fa C L) a n v t := by
  refine ⟨h.ge, fun u h1 h2 => ?_, h.no⟩
  obtain ⟨j, hj⟩ := isK_ex hs u
  rw [fa_k hj]
  by_cases e : j = p
  · subst e; exact hf
  · refine h.ok u j h1 hj ?_
    apply Classical.byContradiction
    intro q
    have := hj.lo p s hp (by omega)
    omega
theorem Erq.end {C : V} {L : List Stp} {a n : Int} {v : V} {t : Int} (hs : Srt L) (h : Erq C L a n v L.length t) (hC : pv C L L.length = C) (hv : v.le C) : Ear (fa C L) a n v t := by
  refine ⟨h.ge, fun u h1 h2 => ?_, h.no⟩
  obtain ⟨j, hj⟩ := isK_ex hs u
  rw [fa_k hj]
  have hl := hj.le
  by_cases e : j = L.length
  · subst e; rw [hC]; exact hv
  · exact h.ok u j h1 hj (by omega)
theorem Erq.top {C : V} {L : List Stp} {a n : Int} {v : V} {p : Nat} {t M : Int} (h : Erq C L a n v p t) (ha : a ≤ M) (hb : ∀ s ∈ L, s.at' ≤ M) : t ≤ M := by
  rcases h.ps with ⟨e, q⟩ | ⟨q, r, e1, e2, e3, e4⟩
  · omega
  · have := hb r (List.mem_of_getElem? e2)
    omega
end Go.Proofs.YtjgibngnjlciaaaGreat
