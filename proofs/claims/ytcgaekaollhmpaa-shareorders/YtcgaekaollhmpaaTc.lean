/-
  Usages put one by one into a list in order: the mathematics; a usage of an owned row written.
-/
import Derived.Test.YtcgaekaollhmpaaTb
namespace Go.Proofs.Ytcgaekaollhmpaa
open Go.RowKit Go.Maps

theorem tb_total {a b : Tn} (h : a.nm ≠ b.nm) : tb a b ∨ tb b a := by
  unfold tb
  rcases Nat.lt_trichotomy (a.n * b.d) (b.n * a.d) with q | q | q
  · exact .inl (.inl q)
  · rcases WideAt.bytes_total _ _ h with r | r
    · exact .inl (.inr ⟨q, r⟩)
    · exact .inr (.inr ⟨q.symm, r⟩)
  · exact .inr (.inl q)
theorem tb_trans {a b c : Tn} (ha : a.d ≠ 0) (hb : b.d ≠ 0) (hc : c.d ≠ 0) (h : tb a b) (k : tb b c) : tb a c := by
  rcases h with h | ⟨h, h2⟩ <;> rcases k with k | ⟨k, k2⟩
  · exact .inl (rl.trans (a := kT a) (b := kT b) (c := kT c) hb hc ha h k)
  · exact .inl (rl.re (a := kT a) (b := kT b) (c := kT c) hb ha hc h k)
  · exact .inl (re.rl (a := kT a) (b := kT b) (c := kT c) hb ha hc h k)
  · exact .inr ⟨re.trans (a := kT a) (b := kT b) (c := kT c) hb h k, WideShapes.bytes_trans _ _ _ h2 k2⟩
def SrT (all : Vs.V) (St : List U) : Prop := St.Pairwise fun a b => tb (ten all a) (ten all b)
theorem ins_srt {all : Vs.V} {St : List U} {u : U} {k : Nat} (hs : SrT all St) (he : ∀ x ∈ St, er all x = 0) (hu : er all u = 0) (hn : ∀ x ∈ St, x.nm ≠ u.nm) (hd : ∀ z ∈ St.drop k, tb (ten all u) (ten all z)) (hk : k = 0 ∨ ∃ z, St[k - 1]? = some z ∧ ¬ tb (ten all u) (ten all z)) : SrT all (St.take k ++ u :: St.drop k) := by
  have hs' : SrT all (St.take k ++ St.drop k) := by rw [List.take_append_drop]; exact hs
  obtain ⟨h1, h2, h3⟩ := List.pairwise_append.1 hs'
  refine List.pairwise_append.2 ⟨h1, List.pairwise_cons.2 ⟨hd, h2⟩, fun a ha b hb => ?_⟩
  rcases List.mem_cons.1 hb with rfl | hb
  · rcases hk with rfl | ⟨z, hz, hnz⟩
    · simp at ha
    · obtain ⟨hl, hz'⟩ := List.getElem?_eq_some_iff.1 hz
      have hzm : z ∈ St := List.mem_of_getElem? hz
      have hzu : tb (ten all z) (ten all b) := (tb_total (a := ten all b) (b := ten all z) (fun e => hn z hzm e.symm)).resolve_left hnz
      obtain ⟨i, hi, rfl⟩ := List.getElem_of_mem ha
      rw [List.length_take] at hi
      rw [List.getElem_take]
      by_cases e : i = k - 1
      · subst e; rw [hz']; exact hzu
      · have := List.pairwise_iff_getElem.1 hs i (k - 1) (by omega) hl (by omega)
        rw [hz'] at this
        exact tb_trans (ten_ok (he _ (List.getElem_mem _))).z (ten_ok (he z hzm)).z (ten_ok hu).z this hzu
  · exact h3 a ha b hb
theorem mid_length {α : Type} (l : List α) (y : α) (k : Nat) (hk : k ≤ l.length) : k < (l.take k ++ y :: l.drop k).length := by
  rw [List.length_append, List.length_take, List.length_cons]; omega
theorem set_mid {α : Type} (l : List α) (y f : α) (k : Nat) (hk : k ≤ l.length) : (l.take k ++ y :: l.drop k).set k f = l.take k ++ f :: l.drop k := by
  rw [List.set_append_right _ _ (by rw [List.length_take]; omega), List.length_take, show k - min k l.length = 0 by omega]
  rfl
theorem mid_at {α : Type} (l : List α) (y : α) (k : Nat) (hk : k ≤ l.length) : (l.take k ++ y :: l.drop k)[k]? = some y := by
  rw [List.getElem?_append_right (by rw [List.length_take]; omega), List.length_take, show k - min k l.length = 0 by omega]
  rfl
theorem flat_set {α : Type} {f : α → List Value} {sz : Nat} (hf : ∀ a, (f a).length = sz) : ∀ {L : List α} {k j : Nat} {a b : α} {x : Value}, L[k]? = some a → j < sz → f b = (f a).set j x → (L.set k b).flatMap f = (L.flatMap f).set (k * sz + j) x
  | [], k, j, a, b, x, h, _, _ => by simp at h
  | c :: r, 0, j, a, b, x, h, hj, hb => by
    have e : c = a := by simpa using h
    subst e
    rw [List.set_cons_zero, List.flatMap_cons, List.flatMap_cons, hb, Nat.zero_mul, Nat.zero_add, List.set_append_left _ _ (by rw [hf]; exact hj)]
  | c :: r, k + 1, j, a, b, x, h, hj, hb => by
    have ih := flat_set hf (L := r) (k := k) (j := j) (by simpa using h) hj hb
    rw [List.set_cons_succ, List.flatMap_cons, List.flatMap_cons, ih, List.set_append_right _ _ (by rw [hf, Nat.succ_mul]; omega), hf, show (k + 1) * sz + j - sz = k * sz + j by rw [Nat.succ_mul]; omega]
theorem ru_cell {b : Nat} {W : World} {g n c k j : Nat} {L : List U} {u u' : U} {x : Value} (h : RU b W (.slice (some ⟨g, 0, none⟩) n c) L) (hu : L[k]? = some u) (hj : j < 6) (he : uC u' = (uC u).set j x) : RU b (W.setCell ⟨g, k * 6 + j, none⟩ x) (.slice (some ⟨g, 0, none⟩) n c) (L.set k u') := by
  have hk := (List.getElem?_eq_some_iff.1 hu).1
  refine ⟨by rw [flat_length uC_len], ?_⟩
  rcases h.2 with ⟨e, _⟩ | ⟨g', cap, cur, e1, hge, hg, h1, h2, h3, h4⟩
  · cases e
  · have hl := h.len
    injection e1 with e2 e3 e4
    injection e2 with e5
    injection e5 with e6
    subst e6 e4
    refine .inr ⟨g, c, cur.setIfInBounds (k * 6 + j) x, by rw [List.length_set, hl], hge, setB hg x, by simpa using h1, h2, by simpa using h3, ?_⟩
    rw [Array.toList_setIfInBounds, List.length_set, List.take_set, h4, flat_set uC_len hu hj he]
/-- a usage of an owned row, written whole -/
theorem ru_set {b : Nat} {W : World} {g n c k : Nat} {L : List U} (v : U) (h : RU b W (.slice (some ⟨g, 0, none⟩) n c) L) (hk : k < L.length) : RU b ((((((W.setCell ⟨g, k * 6, none⟩ (.string ⟨⟨v.nm⟩⟩)).setCell ⟨g, k * 6 + 1, none⟩ (.int .i64 v.wt)).setCell ⟨g, k * 6 + 2, none⟩ (.int .i64 v.v.a)).setCell ⟨g, k * 6 + 3, none⟩ (.int .i64 v.v.b)).setCell ⟨g, k * 6 + 4, none⟩ (.int .i64 v.v.c)).setCell ⟨g, k * 6 + 5, none⟩ (.int .i64 v.v.d)) (.slice (some ⟨g, 0, none⟩) n c) (L.set k v) := by
  obtain ⟨u, hu⟩ : ∃ u, L[k]? = some u := ⟨_, List.getElem?_eq_getElem hk⟩
  obtain ⟨un, uw, ⟨ua, ub, uc, ud⟩⟩ := u
  obtain ⟨vn, vw, ⟨va, vb, vc, vd⟩⟩ := v
  have at' : ∀ (M : List U) (y : U), k < M.length → (M.set k y)[k]? = some y := fun M y hM => by rw [List.getElem?_set_self hM]
  have h1 := ru_cell (u' := ⟨vn, uw, ⟨ua, ub, uc, ud⟩⟩) (j := 0) h hu (by omega) rfl
  have h2 := ru_cell (u' := ⟨vn, vw, ⟨ua, ub, uc, ud⟩⟩) (j := 1) h1 (at' _ _ hk) (by omega) rfl
  rw [List.set_set] at h2
  have h3 := ru_cell (u' := ⟨vn, vw, ⟨va, ub, uc, ud⟩⟩) (j := 2) h2 (at' _ _ hk) (by omega) rfl
  rw [List.set_set] at h3
  have h4 := ru_cell (u' := ⟨vn, vw, ⟨va, vb, uc, ud⟩⟩) (j := 3) h3 (at' _ _ hk) (by omega) rfl
  rw [List.set_set] at h4
  have h5 := ru_cell (u' := ⟨vn, vw, ⟨va, vb, vc, ud⟩⟩) (j := 4) h4 (at' _ _ hk) (by omega) rfl
  rw [List.set_set] at h5
  have h6 := ru_cell (u' := ⟨vn, vw, ⟨va, vb, vc, vd⟩⟩) (j := 5) h5 (at' _ _ hk) (by omega) rfl
  rw [List.set_set] at h6
  exact h6
theorem ru_at {b : Nat} {W : World} {g n c k : Nat} {L : List U} {u : U} (h : RU b W (.slice (some ⟨g, 0, none⟩) n c) L) (hu : L[k]? = some u) : (W.cell? ⟨g, k * 6, none⟩ = some (.string ⟨⟨u.nm⟩⟩) ∧ W.cell? ⟨g, k * 6 + 1, none⟩ = some (.int .i64 u.wt) ∧ W.cell? ⟨g, k * 6 + 2, none⟩ = some (.int .i64 u.v.a) ∧ W.cell? ⟨g, k * 6 + 3, none⟩ = some (.int .i64 u.v.b) ∧ W.cell? ⟨g, k * 6 + 4, none⟩ = some (.int .i64 u.v.c) ∧ W.cell? ⟨g, k * 6 + 5, none⟩ = some (.int .i64 u.v.d)) ∧ ∀ j, W.frozen? ⟨g, j, none⟩ = false := by
  obtain ⟨g', e, hc⟩ := h.at uC_len hu
  cases e
  refine ⟨⟨hc 0 _ rfl, hc 1 _ rfl, hc 2 _ rfl, hc 3 _ rfl, hc 4 _ rfl, hc 5 _ rfl⟩, fun j => ?_⟩
  rcases h.2 with ⟨e, _⟩ | ⟨g', cap, cur, e1, hge, hg, _⟩
  · cases e
  · injection e1 with e2
    injection e2 with e5
    injection e5 with e6
    subst e6
    exact fz hg _
theorem uarg_ru {b : Nat} {w : World} {q : Option Addr} {n c : Nat} {L : List U} (h : RU b w (.slice q n c) L) (hs : ∀ u ∈ L, u.nm.length ≤ 281474976710656) : UArg w q L := by
  refine ⟨fun i u hu => ?_, hs⟩
  obtain ⟨g, rfl, hc⟩ := h.at uC_len hu
  refine ⟨g, 0, rfl, ?_, ?_, ?_, ?_, ?_, ?_⟩
  · have := hc 0 _ rfl; simpa using this
  · have := hc 1 _ rfl; simpa using this
  · have := hc 2 _ rfl; simpa using this
  · have := hc 3 _ rfl; simpa using this
  · have := hc 4 _ rfl; simpa using this
  · have := hc 5 _ rfl; simpa using this
end Go.Proofs.Ytcgaekaollhmpaa
