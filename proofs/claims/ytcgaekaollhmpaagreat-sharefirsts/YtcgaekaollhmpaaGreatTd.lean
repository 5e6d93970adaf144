/-
  Usages put one by one into a list in order: the mathematics; a usage of an owned row written. The document's Order.
-/
import Derived.Test.YtcgaekaollhmpaaGreatTb
import Derived.Lib.QuietBelow
import Derived.BigQuiet
namespace Go.Proofs.YtcgaekaollhmpaaGreat
open Go.RowKit Go.Maps

theorem tb_total {a b : Tn} (h : a.nm ≠ b.nm) : tb a b ∨ tb b a := by
  unfold tb
  rcases Nat.lt_trichotomy (a.n * b.d) (b.n * a.d) with q | q | q
  · exact .inl (.inl q)
  · rcases WideAt.bytes_total _ _ h with r | r
    · exact .inl (.inr ⟨q, r⟩)
    · exact .inr (.inr ⟨q.symm, r⟩)
  · exact .inr (.inl q)
theorem tb_trans {a b c : Tn} (ha : a.d ≠ 0) (hb : b.d ≠ 0) (hc : c.d ≠ 0) (h : tb a b) (k : tb b c) : tb a c := by
  rcases h with h | ⟨h, h2⟩ <;> rcases k with k | ⟨k, k2⟩
  · exact .inl (rl.trans (a := kT a) (b := kT b) (c := kT c) hb hc ha h k)
  · exact .inl (rl.re (a := kT a) (b := kT b) (c := kT c) hb ha hc h k)
  · exact .inl (re.rl (a := kT a) (b := kT b) (c := kT c) hb ha hc h k)
  · exact .inr ⟨re.trans (a := kT a) (b := kT b) (c := kT c) hb h k, WideShapes.bytes_trans _ _ _ h2 k2⟩
def SrT (all : Vs.V) (St : List U) : Prop := St.Pairwise fun a b => tb (ten all a) (ten all b)
theorem ins_srt {all : Vs.V} {St : List U} {u : U} {k : Nat} (hs : SrT all St) (he : ∀ x ∈ St, er all x = 0) (hu : er all u = 0) (hn : ∀ x ∈ St, x.nm ≠ u.nm) (hd : ∀ z ∈ St.drop k, tb (ten all u) (ten all z)) (hk : k = 0 ∨ ∃ z, St[k - 1]? = some z ∧ ¬ tb (ten all u) (ten all z)) : SrT all (St.take k ++ u :: St.drop k) := by
  have hs' : SrT all (St.take k ++ St.drop k) := by rw [List.take_append_drop]; exact hs
  obtain ⟨h1, h2, h3⟩ := List.pairwise_append.1 hs'
  refine List.pairwise_append.2 ⟨h1, List.pairwise_cons.2 ⟨hd, h2⟩, fun a ha b hb => ?_⟩
  rcases List.mem_cons.1 hb with rfl | hb
  · rcases hk with rfl | ⟨z, hz, hnz⟩
    · simp at ha
    · obtain ⟨hl, hz'⟩ := List.getElem?_eq_some_iff.1 hz
      have hzm : z ∈ St := List.mem_of_getElem? hz
      have hzu : tb (ten all z) (ten all b) := (tb_total (a := ten all b) (b := ten all z) (fun e => hn z hzm e.symm)).resolve_left hnz
      obtain ⟨i, hi, rfl⟩ := List.getElem_of_mem ha
      rw [List.length_take] at hi
      rw [List.getElem_take]
      by_cases e : i = k - 1
      · subst e; rw [hz']; exact hzu
      · have := List.pairwise_iff_getElem.1 hs i (k - 1) (by omega) hl (by omega)
        rw [hz'] at this
        exact tb_trans (ten_ok (he _ (List.getElem_mem _))).z (ten_ok (he z hzm)).z (ten_ok hu).z this hzu
  · exact h3 a ha b hb
theorem mid_length {α : Type} (l : List α) (y : α) (k : Nat) (hk : k ≤ l.length) : k < (l.take k ++ y :: l.drop k).length := by
  rw [List.length_append, List.length_take, List.length_cons]; omega
theorem set_mid {α : Type} (l : List α) (y f : α) (k : Nat) (hk : k ≤ l.length) : (l.take k ++ y :: l.drop k).set k f = l.take k ++ f :: l.drop k := by
  rw [List.set_append_right _ _ (by rw [List.length_take]; omega), List.length_take, show k - min k l.length = 0 by omega]
  rfl
theorem mid_at {α : Type} (l : List α) (y : α) (k : Nat) (hk : k ≤ l.length) : (l.take k ++ y :: l.drop k)[k]? = some y := by
  rw [List.getElem?_append_right (by rw [List.length_take]; omega), List.length_take, show k - min k l.length = 0 by omega]
  rfl
theorem flat_set {α : Type} {f : α → List Value} {sz : Nat} (hf : ∀ a, (f a).length = sz) : ∀ {L : List α} {k j : Nat} {a b : α} {x : Value}, L[k]? = some a → j < sz → f b = (f a).set j x → (L.set k b).flatMap f = (L.flatMap f).set (k * sz + j) x
  | [], k, j, a, b, x, h, _, _ => by simp at h
  | c :: r, 0, j, a, b, x, h, hj, hb => by
    have e : c = a := by simpa using h
    subst e
    rw [List.set_cons_zero, List.flatMap_cons, List.flatMap_cons, hb, Nat.zero_mul, Nat.zero_add, List.set_append_left _ _ (by rw [hf]; exact hj)]
  | c :: r, k + 1, j, a, b, x, h, hj, hb => by
    have ih := flat_set hf (L := r) (k := k) (j := j) (by simpa using h) hj hb
    rw [List.set_cons_succ, List.flatMap_cons, List.flatMap_cons, ih, List.set_append_right _ _ (by rw [hf, Nat.succ_mul]; omega), hf, show (k + 1) * sz + j - sz = k * sz + j by rw [Nat.succ_mul]; omega]
theorem ru_cell {b : Nat} {W : World} {g n c k j : Nat} {L : List U} {u u' : U} {x : Value} (h : RU b W (.slice (some ⟨g, 0, none⟩) n c) L) (hu : L[k]? = some u) (hj : j < 6) (he : uC u' = (uC u).set j x) : RU b (W.setCell ⟨g, k * 6 + j, none⟩ x) (.slice (some ⟨g, 0, none⟩) n c) (L.set k u') := by
  have hk := (List.getElem?_eq_some_iff.1 hu).1
  refine ⟨by rw [flat_length uC_len], ?_⟩
  rcases h.2 with ⟨e, _⟩ | ⟨g', cap, cur, e1, hge, hg, h1, h2, h3, h4⟩
  · cases e
  · have hl := h.len
    injection e1 with e2 e3 e4
    injection e2 with e5
    injection e5 with e6
    subst e6 e4
    refine .inr ⟨g, c, cur.setIfInBounds (k * 6 + j) x, by rw [List.length_set, hl], hge, setB hg x, by simpa using h1, h2, by simpa using h3, ?_⟩
    rw [Array.toList_setIfInBounds, List.length_set, List.take_set, h4, flat_set uC_len hu hj he]
/-- a usage of an owned row, written whole -/
theorem ru_set {b : Nat} {W : World} {g n c k : Nat} {L : List U} (v : U) (h : RU b W (.slice (some ⟨g, 0, none⟩) n c) L) (hk : k < L.length) : RU b ((((((W.setCell ⟨g, k * 6, none⟩ (.string ⟨⟨v.nm⟩⟩)).setCell ⟨g, k * 6 + 1, none⟩ (.int .i64 v.wt)).setCell ⟨g, k * 6 + 2, none⟩ (.int .i64 v.v.a)).setCell ⟨g, k * 6 + 3, none⟩ (.int .i64 v.v.b)).setCell ⟨g, k * 6 + 4, none⟩ (.int .i64 v.v.c)).setCell ⟨g, k * 6 + 5, none⟩ (.int .i64 v.v.d)) (.slice (some ⟨g, 0, none⟩) n c) (L.set k v) := by
  obtain ⟨u, hu⟩ : ∃ u, L[k]? = some u := ⟨_, List.getElem?_eq_getElem hk⟩
  obtain ⟨un, uw, ⟨ua, ub, uc, ud⟩⟩ := u
  obtain ⟨vn, vw, ⟨va, vb, vc, vd⟩⟩ := v
  have at' : ∀ (M : List U) (y : U), k < M.length → (M.set k y)[k]? = some y := fun M y hM => by rw [List.getElem?_set_self hM]
  have h1 := ru_cell (u' := ⟨vn, uw, ⟨ua, ub, uc, ud⟩⟩) (j := 0) h hu (by omega) rfl
  have h2 := ru_cell (u' := ⟨vn, vw, ⟨ua, ub, uc, ud⟩⟩) (j := 1) h1 (at' _ _ hk) (by omega) rfl
  rw [List.set_set] at h2
  have h3 := ru_cell (u' := ⟨vn, vw, ⟨va, ub, uc, ud⟩⟩) (j := 2) h2 (at' _ _ hk) (by omega) rfl
  rw [List.set_set] at h3
  have h4 := ru_cell (u' := ⟨vn, vw, ⟨va, vb, uc, ud⟩⟩) (j := 3) h3 (at' _ _ hk) (by omega) rfl
  rw [List.set_set] at h4
  have h5 := ru_cell (u' := ⟨vn, vw, ⟨va, vb, vc, ud⟩⟩) (j := 4) h4 (at' _ _ hk) (by omega) rfl
  rw [List.set_set] at h5
  have h6 := ru_cell (u' := ⟨vn, vw, ⟨va, vb, vc, vd⟩⟩) (j := 5) h5 (at' _ _ hk) (by omega) rfl
  rw [List.set_set] at h6
  exact h6
theorem ru_at {b : Nat} {W : World} {g n c k : Nat} {L : List U} {u : U} (h : RU b W (.slice (some ⟨g, 0, none⟩) n c) L) (hu : L[k]? = some u) : (W.cell? ⟨g, k * 6, none⟩ = some (.string ⟨⟨u.nm⟩⟩) ∧ W.cell? ⟨g, k * 6 + 1, none⟩ = some (.int .i64 u.wt) ∧ W.cell? ⟨g, k * 6 + 2, none⟩ = some (.int .i64 u.v.a) ∧ W.cell? ⟨g, k * 6 + 3, none⟩ = some (.int .i64 u.v.b) ∧ W.cell? ⟨g, k * 6 + 4, none⟩ = some (.int .i64 u.v.c) ∧ W.cell? ⟨g, k * 6 + 5, none⟩ = some (.int .i64 u.v.d)) ∧ ∀ j, W.frozen? ⟨g, j, none⟩ = false := by
  obtain ⟨g', e, hc⟩ := h.at uC_len hu
  cases e
  refine ⟨⟨hc 0 _ rfl, hc 1 _ rfl, hc 2 _ rfl, hc 3 _ rfl, hc 4 _ rfl, hc 5 _ rfl⟩, fun j => ?_⟩
  rcases h.2 with ⟨e, _⟩ | ⟨g', cap, cur, e1, hge, hg, _⟩
  · cases e
  · injection e1 with e2
    injection e2 with e5
    injection e5 with e6
    subst e6
    exact fz hg _
theorem uarg_ru {b : Nat} {w : World} {q : Option Addr} {n c : Nat} {L : List U} (h : RU b w (.slice q n c) L) (hs : ∀ u ∈ L, u.nm.length ≤ 281474976710656) : UArg w q L := by
  refine ⟨fun i u hu => ?_, hs⟩
  obtain ⟨g, rfl, hc⟩ := h.at uC_len hu
  refine ⟨g, 0, rfl, ?_, ?_, ?_, ?_, ?_, ?_⟩
  · have := hc 0 _ rfl; simpa using this
  · have := hc 1 _ rfl; simpa using this
  · have := hc 2 _ rfl; simpa using this
  · have := hc 3 _ rfl; simpa using this
  · have := hc 4 _ rfl; simpa using this
  · have := hc 5 _ rfl; simpa using this
end Go.Proofs.YtcgaekaollhmpaaGreat

namespace Go.Proofs.YtcgaekaollhmpaaGreat
open Go.RowKit Go.Maps Go.Sort

/-- while usages are put in -/
structure I2 (w wr : World) (B0 : Nat) (all : Vs.V) (L : List U) (p : Option Addr) (i cc : Nat) (St : List U) : Prop where
  r : RU B0 wr (.slice p i cc) St
  pm : St.Perm (L.take i)
  so : SrT all St
  nd : Nd (L.take i)
  bx : wr.heap[w.heap.size]? = some (.cells #[.int .i64 all.a, .int .i64 all.b, .int .i64 all.c, .int .i64 all.d] 23 (0, 0))
  be : Below w.heap.size w wr
  sz : B0 ≤ wr.heap.size
/-- while a place is looked for -/
structure I4 (w wr : World) (B0 : Nat) (all : Vs.V) (g i c3 : Nat) (St : List U) (u : U) (k : Nat) (y : U) : Prop where
  r : RU B0 wr (.slice (some ⟨g, 0, none⟩) (i + 1) c3) (St.take k ++ y :: St.drop k)
  dr : ∀ z ∈ St.drop k, tb (ten all u) (ten all z)
  bx : wr.heap[w.heap.size]? = some (.cells #[.int .i64 all.a, .int .i64 all.b, .int .i64 all.c, .int .i64 all.d] 23 (0, 0))
  be : Below w.heap.size w wr
  sz : B0 ≤ wr.heap.size
  gl : w.heap.size < g
theorem I4.set {w wr : World} {B0 : Nat} {all : Vs.V} {g i c3 : Nat} {St : List U} {u : U} {k : Nat} {y : U} (h : I4 w wr B0 all g i c3 St u k y) (v : U) (hk : k ≤ St.length) : RU B0 ((((((wr.setCell ⟨g, k * 6, none⟩ (.string ⟨⟨v.nm⟩⟩)).setCell ⟨g, k * 6 + 1, none⟩ (.int .i64 v.wt)).setCell ⟨g, k * 6 + 2, none⟩ (.int .i64 v.v.a)).setCell ⟨g, k * 6 + 3, none⟩ (.int .i64 v.v.b)).setCell ⟨g, k * 6 + 4, none⟩ (.int .i64 v.v.c)).setCell ⟨g, k * 6 + 5, none⟩ (.int .i64 v.v.d)) (.slice (some ⟨g, 0, none⟩) (i + 1) c3) (St.take k ++ v :: St.drop k) ∧ ((((((wr.setCell ⟨g, k * 6, none⟩ (.string ⟨⟨v.nm⟩⟩)).setCell ⟨g, k * 6 + 1, none⟩ (.int .i64 v.wt)).setCell ⟨g, k * 6 + 2, none⟩ (.int .i64 v.v.a)).setCell ⟨g, k * 6 + 3, none⟩ (.int .i64 v.v.b)).setCell ⟨g, k * 6 + 4, none⟩ (.int .i64 v.v.c)).setCell ⟨g, k * 6 + 5, none⟩ (.int .i64 v.v.d)).heap[w.heap.size]? = some (.cells #[.int .i64 all.a, .int .i64 all.b, .int .i64 all.c, .int .i64 all.d] 23 (0, 0)) ∧ Below w.heap.size w ((((((wr.setCell ⟨g, k * 6, none⟩ (.string ⟨⟨v.nm⟩⟩)).setCell ⟨g, k * 6 + 1, none⟩ (.int .i64 v.wt)).setCell ⟨g, k * 6 + 2, none⟩ (.int .i64 v.v.a)).setCell ⟨g, k * 6 + 3, none⟩ (.int .i64 v.v.b)).setCell ⟨g, k * 6 + 4, none⟩ (.int .i64 v.v.c)).setCell ⟨g, k * 6 + 5, none⟩ (.int .i64 v.v.d)) ∧ B0 ≤ ((((((wr.setCell ⟨g, k * 6, none⟩ (.string ⟨⟨v.nm⟩⟩)).setCell ⟨g, k * 6 + 1, none⟩ (.int .i64 v.wt)).setCell ⟨g, k * 6 + 2, none⟩ (.int .i64 v.v.a)).setCell ⟨g, k * 6 + 3, none⟩ (.int .i64 v.v.b)).setCell ⟨g, k * 6 + 4, none⟩ (.int .i64 v.v.c)).setCell ⟨g, k * 6 + 5, none⟩ (.int .i64 v.v.d)).heap.size := by
  have h1 := ru_set v h.r (mid_length St y k hk)
  rw [set_mid St y v k hk] at h1
  have hne : w.heap.size ≠ g := Nat.ne_of_lt h.gl
  have hg : w.heap.size ≤ g := Nat.le_of_lt h.gl
  refine ⟨h1, ?_, ((((((h.be.setCell hg _).setCell hg _).setCell hg _).setCell hg _).setCell hg _).setCell hg _), ?_⟩
  · rw [Below.heap_setCell _ _ _ _ hne, Below.heap_setCell _ _ _ _ hne, Below.heap_setCell _ _ _ _ hne, Below.heap_setCell _ _ _ _ hne, Below.heap_setCell _ _ _ _ hne, Below.heap_setCell _ _ _ _ hne]
    exact h.bx
  · have := h.sz
    simp only [World.setCell, Array.size_modify]
    exact this
theorem I4.below {w wr wr' : World} {B0 : Nat} {all : Vs.V} {g i c3 : Nat} {St : List U} {u : U} {k : Nat} {y : U} (h : I4 w wr B0 all g i c3 St u k y) (b : Below wr.heap.size wr wr') : I4 w wr' B0 all g i c3 St u k y := ⟨h.r.below b, h.dr, at_below b (Nat.le_refl _) h.bx, h.be.trans (b.mono h.be.size), Nat.le_trans h.sz b.size, h.gl⟩
theorem shift_eq {α : Type} {St : List α} {t : Nat} {z : α} (h : St[t]? = some z) : St.take (t + 1) ++ z :: St.drop (t + 1) = St.take t ++ z :: St.drop t := by
  obtain ⟨hl, rfl⟩ := List.getElem?_eq_some_iff.1 h
  rw [List.take_succ_eq_append_getElem hl, List.append_assoc, List.drop_eq_getElem_cons hl]
  rfl
theorem take_nd {L : List U} {i : Nat} {u : U} (h : Nd (L.take i)) (hu : L[i]? = some u) (hn : ∀ j v, j < i → L[j]? = some v → v.nm ≠ u.nm) : Nd (L.take (i + 1)) := by
  unfold Nd
  rw [List.take_add_one, hu]
  refine List.pairwise_append.2 ⟨h, List.pairwise_singleton _ _, fun a ha b hb => ?_⟩
  have e : b = u := by simpa using hb
  subst e
  obtain ⟨j, hj, rfl⟩ := List.getElem_of_mem ha
  rw [List.length_take] at hj
  rw [List.getElem_take]
  exact hn j _ (by omega) (List.getElem?_eq_getElem _)
theorem twice_nd {L : List U} {i j : Nat} {a b : U} (ha : L[j]? = some a) (hb : L[i]? = some b) (hj : j < i) (e : a.nm = b.nm) : ¬ Nd L := fun h => by
  obtain ⟨l1, e1⟩ := List.getElem?_eq_some_iff.1 ha
  obtain ⟨l2, e2⟩ := List.getElem?_eq_some_iff.1 hb
  have := List.pairwise_iff_getElem.1 h j i l1 l2 hj
  rw [e1, e2] at this
  exact this e
/-- behind a usage that was put in -/
theorem I4.fin {w wr W : World} {B0 : Nat} {all : Vs.V} {L : List U} {p : Option Addr} {g i cc c3 k : Nat} {St : List U} {u : U} (h2 : I2 w wr B0 all L p i cc St) (hu : L[i]? = some u) (hz : ∀ x ∈ L, er all x = 0) (hn : Nd (L.take (i + 1))) (hd : ∀ z ∈ St.drop k, tb (ten all u) (ten all z)) (hk : k = 0 ∨ ∃ z, St[k - 1]? = some z ∧ ¬ tb (ten all u) (ten all z)) (hr : RU B0 W (.slice (some ⟨g, 0, none⟩) (i + 1) c3) (St.take k ++ u :: St.drop k)) (hb : W.heap[w.heap.size]? = some (.cells #[.int .i64 all.a, .int .i64 all.b, .int .i64 all.c, .int .i64 all.d] 23 (0, 0))) (hB : Below w.heap.size w W) (hs : B0 ≤ W.heap.size) : I2 w W B0 all L (some ⟨g, 0, none⟩) (i + 1) c3 (St.take k ++ u :: St.drop k) := by
  have hL : L.take (i + 1) = L.take i ++ [u] := by rw [List.take_add_one, hu]; rfl
  have hm : ∀ x ∈ St, x ∈ L := fun x hx => List.mem_of_mem_take (h2.pm.mem_iff.1 hx)
  refine ⟨hr, ?_, ins_srt h2.so (fun x hx => hz x (hm x hx)) (hz u (List.mem_of_getElem? hu)) (fun x hx => ?_) hd hk, hn, hb, hB, hs⟩
  · rw [hL]
    have q1 : (St.take k ++ u :: St.drop k).Perm (u :: (St.take k ++ St.drop k)) := List.perm_middle
    rw [List.take_append_drop] at q1
    exact q1.trans ((h2.pm.cons u).trans (List.perm_append_comm (l₁ := [u])))
  · unfold Nd at hn
    rw [hL] at hn
    have := (List.pairwise_append.1 hn).2.2 x (h2.pm.mem_iff.1 hx) u (by simp)
    exact this
set_option maxHeartbeats 8000000 in
set_option maxRecDepth 100000 in
theorem rorder_any (all : Vs.V) (q : Option Addr) (n c : Nat) (L : List U) (w : World) (hn : n = L.length) (hr : UArg w q L) (hm : n ≤ 1000) :
    Calls Tryz.prog 14 #[.agg #[.int .i64 all.a, .int .i64 all.b, .int .i64 all.c, .int .i64 all.d], .slice q n c] w (OrdP w all L) := by
  have HR : Hid (UArg w q L ∧ n = L.length) := ⟨hr, hn⟩
  clear hr hn
  obtain ⟨l0, l1, l2, l3⟩ := all
  simp only []
  go_enter Tryz.func14, Tryz.ntmps14
  go_upto_region 1 with fail
  obtain ⟨W1, hW1⟩ : ∃ W1, W1 = w.alloc (.cells #[.int .i64 l0, .int .i64 l1, .int .i64 l2, .int .i64 l3] 23) := ⟨_, rfl⟩
  have G1 : Hid (W1.heap[w.heap.size]? = some (.cells #[.int .i64 l0, .int .i64 l1, .int .i64 l2, .int .i64 l3] 23 (0, 0)) ∧ Below w.heap.size w W1) := by subst hW1; exact ⟨new0, (Below.refl _ w).alloc (Nat.le_refl _) _⟩
  rw [← hW1]
  clear hW1
  obtain ⟨bw, hbw⟩ : ∃ bw, bw = w.heap.size := ⟨_, rfl⟩
  rw [← hbw]
  have HBW : Hid (bw = w.heap.size) := hbw
  have HB0 : Hid (w.heap.size + 1 ≤ W1.heap.size) := (Array.getElem?_eq_some_iff.1 G1.out.1).1
  clear hbw
  go_wp2_with fail
  go_loopw [6] (fun x wr => ∃ (k : Nat), x = .int .i64 k ∧ k ≤ n ∧ Hid ((∀ i v, i < k → L[i]? = some v → er ⟨l0, l1, l2, l3⟩ v = 0) ∧ wr.heap[w.heap.size]? = some (.cells #[.int .i64 l0, .int .i64 l1, .int .i64 l2, .int .i64 l3] 23 (0, 0)) ∧ Below w.heap.size w wr ∧ w.heap.size + 1 ≤ wr.heap.size)) (fun x _ => n - (intOf x).toNat)
  case atStart => exact ⟨0, rfl, Nat.zero_le _, fun i v hi => by omega, G1.out.1, G1.out.2, HB0.out⟩
  case round =>
    obtain ⟨k, rfl, hk, HI⟩ := hrel
    clear G1 HB0
    by_cases hkn : k < n
    · have k1 : (k : Int) < (n : Int) := by omega
      have k2 : decide ((k : Int) < (n : Int)) = true := decide_eq_true k1
      obtain ⟨u, hu⟩ : ∃ u, L[k]? = some u := ⟨_, List.getElem?_eq_getElem (by have := HR.out.2; omega)⟩
      obtain ⟨sn, sd, se, hsh⟩ : ∃ sn sd se, sh ⟨l0, l1, l2, l3⟩ u = (sn, sd, se) := ⟨_, _, _, rfl⟩
      have HS : Hid (sh ⟨l0, l1, l2, l3⟩ u = (sn, sd, se) ∧ L[k]? = some u) := ⟨hsh, hu⟩
      have H19 : Hid (∀ W, Calls Tryz.prog 29 #[.agg #[.int .i64 u.v.a, .int .i64 u.v.b, .int .i64 u.v.c, .int .i64 u.v.d], .agg #[.int .i64 l0, .int .i64 l1, .int .i64 l2, .int .i64 l3], .int .i64 u.wt] W fun e w' => e = .returned (.tuple #[.agg #[.int .u64 sn, .int .u64 sd], .int .i64 se]) ∧ Hid (Below W.heap.size W w')) := fun W => by
        have := Vs.rshare_any u.v ⟨l0, l1, l2, l3⟩ u.wt W
        unfold sh at hsh
        rw [hsh] at this
        exact this
      obtain ⟨ga, fa, rfl, -⟩ := HR.out.1.c k u hu
      have KC : Hid (∀ W, Below wr.heap.size wr W → W.cell? ⟨ga, fa + k * 6 + 2, none⟩ = some (.int .i64 u.v.a) ∧ W.cell? ⟨ga, fa + k * 6 + 2 + 1, none⟩ = some (.int .i64 u.v.b) ∧ W.cell? ⟨ga, fa + k * 6 + 2 + 2, none⟩ = some (.int .i64 u.v.c) ∧ W.cell? ⟨ga, fa + k * 6 + 2 + 3, none⟩ = some (.int .i64 u.v.d) ∧ W.cell? ⟨ga, fa + k * 6 + 1, none⟩ = some (.int .i64 u.wt) ∧ W.cell? ⟨bw, 0, none⟩ = some (.int .i64 l0) ∧ W.cell? ⟨bw, 1, none⟩ = some (.int .i64 l1) ∧ W.cell? ⟨bw, 2, none⟩ = some (.int .i64 l2) ∧ W.cell? ⟨bw, 3, none⟩ = some (.int .i64 l3)) := fun W b => by
        have b' := HI.out.2.2.1.trans (b.mono HI.out.2.2.1.size)
        obtain ⟨g', f', e', h0, h1, h2, h3, h4, h5⟩ := (HR.out.1.below b').c k u HS.out.2
        cases e'
        have hbx := at_below b (Nat.le_refl _) HI.out.2.1
        rw [← HBW.out] at hbx
        obtain ⟨y0, y1, y2, y3⟩ := c4b hbx
        exact ⟨h2, h3, h4, h5, h1, y0, y1, y2, y3⟩
      clear hsh hu
      obtain ⟨un, uw, ⟨ua, ub, uc, ud⟩⟩ := u
      simp only [] at KC H19
      have zz := KC.out wr (Below.refl _ _)
      have zd := KC.out (wr.drewN 1) (below_drewN (Below.refl _ _) 1)
      have ngf : ¬ ga = wr.heap.size := by have := block_lt_of_cell zz.1; simp only [] at this; omega
      have ngg : ¬ bw = wr.heap.size := by have := block_lt_of_cell zz.2.2.2.2.2.1; simp only [] at this; omega
      have ngh : ¬ wr.heap.size = ga := fun e => ngf e.symm
      have ngi : ¬ wr.heap.size = bw := fun e => ngg e.symm
      have HE : Hid (∀ W', Below (wr.alloc (.cells #[.int .u64 0, .int .u64 0] 77)).drew.heap.size (wr.alloc (.cells #[.int .u64 0, .int .u64 0] 77)).drew W' → Below wr.heap.size wr W') := fun W' b => by
        have b1 : Below wr.heap.size wr (wr.alloc (.cells #[.int .u64 0, .int .u64 0] 77)).drew := ((Below.refl _ wr).alloc (Nat.le_refl _) _).drew
        exact b1.trans (b.mono b1.size)
      have HNW : Hid (∀ W', Below (wr.alloc (.cells #[.int .u64 0, .int .u64 0] 77)).drew.heap.size (wr.alloc (.cells #[.int .u64 0, .int .u64 0] 77)).drew W' → W'.heap[wr.heap.size]? = some (.cells #[.int .u64 0, .int .u64 0] 77 (0, 0))) := fun W' b => at_below b (Nat.le_refl _) (at_drew new0)
      go_upto_region 4 with fail
      go_region_held3 (fun W : World => W.cell? ⟨ga, fa + k * 6 + 2, none⟩ = some (.int .i64 ua) ∧ W.cell? ⟨ga, fa + k * 6 + 2 + 1, none⟩ = some (.int .i64 ub) ∧ W.cell? ⟨ga, fa + k * 6 + 2 + 2, none⟩ = some (.int .i64 uc) ∧ W.cell? ⟨ga, fa + k * 6 + 2 + 3, none⟩ = some (.int .i64 ud) ∧ W.cell? ⟨ga, fa + k * 6 + 1, none⟩ = some (.int .i64 uw) ∧ W.cell? ⟨bw, 0, none⟩ = some (.int .i64 l0) ∧ W.cell? ⟨bw, 1, none⟩ = some (.int .i64 l1) ∧ W.cell? ⟨bw, 2, none⟩ = some (.int .i64 l2) ∧ W.cell? ⟨bw, 3, none⟩ = some (.int .i64 l3)) (first | (with_reducible assumption) | (exact zd) | (exact zz) | go_keep) (first
        | (go_at_call 29; refine (H19.out _).mono ?_; rintro e w4 ⟨rfl, b4⟩; have b5 : Hid (Below wr.heap.size wr w4) := (by first | exact ((Below.refl _ wr).drew).trans b4.out | exact HE.out _ b4.out); have zz := KC.out _ b5.out; try (have n4 := HNW.out _ b4.out; have c4 := c2b n4; have q0 := c4.1; have q1 := c4.2; have f0 := fz n4 0; have f1 := fz n4 1; clear c4 n4)))
      · obtain ⟨W5, hW5⟩ : ∃ W5, W5 = w4.alloc (.cells #[.int .u64 sn, .int .u64 sd] 77) := ⟨_, rfl⟩
        have K5 : Hid (Below wr.heap.size wr W5) := by subst hW5; exact b5.out.alloc b5.out.size _
        rw [← hW5]
        clear hW5
        have HN : Hid (Below w.heap.size w W5 ∧ w.heap.size + 1 ≤ W5.heap.size ∧ W5.heap[w.heap.size]? = some (.cells #[.int .i64 l0, .int .i64 l1, .int .i64 l2, .int .i64 l3] 23 (0, 0))) := ⟨HI.out.2.2.1.trans (K5.out.mono HI.out.2.2.1.size), Nat.le_trans HI.out.2.2.2 K5.out.size, at_below K5.out (Nat.le_refl _) HI.out.2.1⟩
        clear zz zd ngf ngg ngh ngi H19 KC HE HNW b4 b5 K5
        by_cases hse : se = 0
        · obtain rfl := hse
          have HA : Hid (∀ i v, i < k + 1 → L[i]? = some v → er ⟨l0, l1, l2, l3⟩ v = 0) := fun i v hi hv => by
            by_cases q : i < k
            · exact HI.out.1 i v q hv
            · obtain rfl : i = k := by omega
              rw [HS.out.2] at hv
              cases hv
              unfold er
              rw [HS.out.1]
          clear HI HS
          go_wp2_with fail
          exact ⟨⟨k + 1, by simp, by omega, HA.out, HN.out.2.2, HN.out.1, HN.out.2.1⟩, by simp [intOf]; omega⟩
        · have s1 : ¬ (se : Int) = 0 := by omega
          have s2 : ((se : Int) == 0) = false := by simp; omega
          have HF : Hid (OrdR ⟨l0, l1, l2, l3⟩ L se [] ∧ Below w.heap.size w W5) := by
            refine ⟨.inl ⟨?_, hse, rfl⟩, HN.out.1⟩
            have e1 : er ⟨l0, l1, l2, l3⟩ ⟨un, uw, ⟨ua, ub, uc, ud⟩⟩ = se := by unfold er; rw [HS.out.1]
            rw [fstE_at HS.out.2 HI.out.1 (by rw [e1]; exact hse), e1]
          clear HI HS HN HR
          go_wp2_with fail
          go_ret2
          exact ⟨none, 0, 0, se, [], rfl, by omega, HF.out.1, GRow.nil _ _ _ _ _, HF.out.2⟩
      · obtain ⟨W5, hW5⟩ : ∃ W5, W5 = (w4.setCell ⟨wr.heap.size, 0, none⟩ (.int .u64 sn)).setCell ⟨wr.heap.size, 1, none⟩ (.int .u64 sd) := ⟨_, rfl⟩
        have K5 : Hid (Below wr.heap.size wr W5) := by subst hW5; exact (b5.out.setCell (Nat.le_refl _) _).setCell (Nat.le_refl _) _
        rw [← hW5]
        clear hW5 q0 q1 f0 f1
        have HN : Hid (Below w.heap.size w W5 ∧ w.heap.size + 1 ≤ W5.heap.size ∧ W5.heap[w.heap.size]? = some (.cells #[.int .i64 l0, .int .i64 l1, .int .i64 l2, .int .i64 l3] 23 (0, 0))) := ⟨HI.out.2.2.1.trans (K5.out.mono HI.out.2.2.1.size), Nat.le_trans HI.out.2.2.2 K5.out.size, at_below K5.out (Nat.le_refl _) HI.out.2.1⟩
        clear zz zd ngf ngg ngh ngi H19 KC HE HNW b4 b5 K5
        by_cases hse : se = 0
        · obtain rfl := hse
          have HA : Hid (∀ i v, i < k + 1 → L[i]? = some v → er ⟨l0, l1, l2, l3⟩ v = 0) := fun i v hi hv => by
            by_cases q : i < k
            · exact HI.out.1 i v q hv
            · obtain rfl : i = k := by omega
              rw [HS.out.2] at hv
              cases hv
              unfold er
              rw [HS.out.1]
          clear HI HS
          go_wp2_with fail
          exact ⟨⟨k + 1, by simp, by omega, HA.out, HN.out.2.2, HN.out.1, HN.out.2.1⟩, by simp [intOf]; omega⟩
        · have s1 : ¬ (se : Int) = 0 := by omega
          have s2 : ((se : Int) == 0) = false := by simp; omega
          have HF : Hid (OrdR ⟨l0, l1, l2, l3⟩ L se [] ∧ Below w.heap.size w W5) := by
            refine ⟨.inl ⟨?_, hse, rfl⟩, HN.out.1⟩
            have e1 : er ⟨l0, l1, l2, l3⟩ ⟨un, uw, ⟨ua, ub, uc, ud⟩⟩ = se := by unfold er; rw [HS.out.1]
            rw [fstE_at HS.out.2 HI.out.1 (by rw [e1]; exact hse), e1]
          clear HI HS HN HR
          go_wp2_with fail
          go_ret2
          exact ⟨none, 0, 0, se, [], rfl, by omega, HF.out.1, GRow.nil _ _ _ _ _, HF.out.2⟩
    · have k1 : ¬ (k : Int) < (n : Int) := by omega
      have k2 : decide ((k : Int) < (n : Int)) = false := decide_eq_false k1
      have HZ : Hid (∀ x ∈ L, er ⟨l0, l1, l2, l3⟩ x = 0) := fun x hx => by
        obtain ⟨i, hi, e⟩ := List.getElem_of_mem hx
        exact HI.out.1 i x (by have := HR.out.2; omega) (by rw [List.getElem?_eq_getElem hi, e])
      have H0 : Hid (I2 w wr (w.heap.size + 1) ⟨l0, l1, l2, l3⟩ L none 0 0 []) := ⟨GRow.nil _ _ _ _ _, by rw [List.take_zero], List.Pairwise.nil, by rw [List.take_zero]; exact List.Pairwise.nil, HI.out.2.1, HI.out.2.2.1, HI.out.2.2.2⟩
      clear HI
      go_wp2_with fail
      go_loopw [9, 10] (fun y x wr => ∃ (i : Nat) (p : Option Addr) (cc : Nat), y = .slice p i cc ∧ x = .int .i64 i ∧ i ≤ n ∧ Hid (∃ St, I2 w wr (w.heap.size + 1) ⟨l0, l1, l2, l3⟩ L p i cc St)) (fun _ x _ => n - (intOf x).toNat)
      case atStart => exact ⟨0, none, 0, rfl, rfl, Nat.zero_le _, [], H0.out⟩
      case round =>
        obtain ⟨i, p, cc, rfl, rfl, hi, HI⟩ := hrel
        clear H0
        by_cases hin : i < n
        · have i1 : (i : Int) < (n : Int) := by omega
          have i2 : decide ((i : Int) < (n : Int)) = true := decide_eq_true i1
          obtain ⟨u, hu⟩ : ∃ u, L[i]? = some u := ⟨_, List.getElem?_eq_getElem (by have := HR.out.2; omega)⟩
          obtain ⟨ga, fa, rfl, -⟩ := HR.out.1.c i u hu
          obtain ⟨St, hSt⟩ := HI.out
          obtain ⟨un, uw, ⟨ua, ub, uc, ud⟩⟩ := u
          have HU : Hid (L[i]? = some ⟨un, uw, ⟨ua, ub, uc, ud⟩⟩) := hu
          have HI2 : Hid (I2 w wr (w.heap.size + 1) ⟨l0, l1, l2, l3⟩ L p i cc St) := hSt
          have HSL : Hid (St.length = i) := by
            have := hSt.pm.length_eq
            rw [List.length_take] at this
            have h2 := HR.out.2
            show _ = _
            omega
          clear HI hSt hu
          go_wp2_with fail
          generalize wr = V2 at *
          go_loopw [11] (fun x wr => ∃ (k : Nat), x = .int .i64 k ∧ k ≤ i ∧ Hid ((∀ j v, j < k → L[j]? = some v → v.nm ≠ un) ∧ Below V2.heap.size V2 wr)) (fun x _ => i - (intOf x).toNat)
          case atStart => exact ⟨0, rfl, Nat.zero_le _, fun j v hj => by omega, Below.refl _ _⟩
          case round =>
            obtain ⟨k, rfl, hki, HK3⟩ := hrel
            by_cases hkl : k < i
            · have k3 : (k : Int) < (i : Int) := by omega
              have k4 : decide ((k : Int) < (i : Int)) = true := decide_eq_true k3
              have k5 : (k : Int) < (n : Int) := by omega
              obtain ⟨v, hv⟩ : ∃ v, L[k]? = some v := ⟨_, List.getElem?_eq_getElem (by have := HR.out.2; omega)⟩
              have B3 : Hid (Below w.heap.size w wr) := HI2.out.be.trans (HK3.out.2.mono HI2.out.be.size)
              obtain ⟨ga', fa', ea', x0, -⟩ := (HR.out.1.below B3.out).c i _ HU.out
              cases ea'
              obtain ⟨ga', fa', ea', y0, -⟩ := (HR.out.1.below B3.out).c k v hv
              cases ea'
              have HV : Hid (L[k]? = some v) := hv
              clear hv
              obtain ⟨vn, vw, vv⟩ := v
              simp only [] at x0 y0
              by_cases e : vn = un
              · subst e
                have HF : Hid (OrdR ⟨l0, l1, l2, l3⟩ L 5 [] ∧ Below w.heap.size w wr) := ⟨.inr (.inl ⟨fstE_zero.2 HZ.out, twice_nd HV.out HU.out hkl rfl, rfl, rfl⟩), B3.out⟩
                clear HK3 HI2 HU HV HZ HR B3 HSL
                go_upto_region 14 with fail
                go_quiet (fail)
                go_wp2_with fail
                go_ret2
                exact ⟨none, 0, 0, 5, [], rfl, by omega, HF.out.1, GRow.nil _ _ _ _ _, below_drewN HF.out.2 _⟩
              · have e1 : (vn == un) = false := by simpa using e
                have HN : Hid ((∀ j v, j < k + 1 → L[j]? = some v → v.nm ≠ un) ∧ Below V2.heap.size V2 wr) := ⟨fun j v hj hv => by
                  by_cases q : j < k
                  · exact HK3.out.1 j v q hv
                  · obtain rfl : j = k := by omega
                    rw [HV.out] at hv
                    cases hv
                    exact e, HK3.out.2⟩
                clear HK3 HV B3
                go_upto_region 14 with fail
                go_quiet (fail)
                go_wp2_with fail
                exact ⟨⟨k + 1, by simp, by omega, HN.out.1, below_drewN HN.out.2 _⟩, by simp [intOf]; omega⟩
            · have k3 : ¬ (k : Int) < (i : Int) := by omega
              have k4 : decide ((k : Int) < (i : Int)) = false := decide_eq_false k3
              obtain rfl : i = k := by omega
              have HND : Hid (Nd (L.take (i + 1))) := take_nd HI2.out.nd HU.out HK3.out.1
              have H16 : Hid (I2 w wr (w.heap.size + 1) ⟨l0, l1, l2, l3⟩ L p i cc St) := ⟨HI2.out.r.below HK3.out.2, HI2.out.pm, HI2.out.so, HI2.out.nd, at_below HK3.out.2 (Nat.le_refl _) HI2.out.bx, HI2.out.be.trans (HK3.out.2.mono HI2.out.be.size), Nat.le_trans HI2.out.sz HK3.out.2.size⟩
              clear HK3 HI2
              generalize wr = V3 at *
              have HI2 : Hid (I2 w V3 (w.heap.size + 1) ⟨l0, l1, l2, l3⟩ L p i cc St) := H16.out
              clear H16
              obtain ⟨ga', fa', ea', x0, x1, x2, x3, x4, x5⟩ := (HR.out.1.below HI2.out.be).c i _ HU.out
              cases ea'
              simp only [] at x0 x1 x2 x3 x4 x5
              have O1 : Hid (RU (w.heap.size + 1) (V3.alloc (.cells #[.string ⟨⟨un⟩⟩, .int .i64 uw, .int .i64 ua, .int .i64 ub, .int .i64 uc, .int .i64 ud] 53)) (.slice p i cc) St) := HI2.out.r.below ((Below.refl _ V3).alloc (Nat.le_refl _) _)
              have Z1 : Hid (w.heap.size + 1 ≤ (V3.alloc (.cells #[.string ⟨⟨un⟩⟩, .int .i64 uw, .int .i64 ua, .int .i64 ub, .int .i64 uc, .int .i64 ud] 53)).heap.size) := by have := HI2.out.sz; show _ ≤ _; simp; omega
              have R1 : Hid (RowV (V3.alloc (.cells #[.string ⟨⟨un⟩⟩, .int .i64 uw, .int .i64 ua, .int .i64 ub, .int .i64 uc, .int .i64 ud] 53)) V3.heap.size 0 ([(⟨un, uw, ⟨ua, ub, uc, ud⟩⟩ : U)].flatMap uC)) := row_one new0 rfl
              have e9 : Hid (i + 1 ≤ maxLen) := by show _ ≤ _; unfold maxLen; omega
              have e8 : Hid ((i + 1) * 56 ≤ 140737488355328) := by show _ ≤ _; omega
              go_upto_region 17 with (at_builtin; refine append_g (B := w.heap.size + 1) uC_len uC_one Tryz.underlying31 info60 rfl (by decide) rfl _ _ rfl p i cc _ rfl O1.out Z1.out V3.heap.size 0 1 1 [⟨un, uw, ⟨ua, ub, uc, ud⟩⟩] rfl rfl R1.out e9.out e8.out ?_; intro p3 c3 w3 hr3 hb3)
              obtain ⟨g3, rfl⟩ : ∃ g3, p3 = some ⟨g3, 0, none⟩ := by
                rcases hr3.2 with ⟨_, x⟩ | ⟨g', cap, cur, e1, _⟩
                · rw [List.length_append] at x; simp at x
                · injection e1 with e2; exact ⟨g', e2⟩
              have H4 : Hid (I4 w w3 (w.heap.size + 1) ⟨l0, l1, l2, l3⟩ g3 i c3 St ⟨un, uw, ⟨ua, ub, uc, ud⟩⟩ i ⟨un, uw, ⟨ua, ub, uc, ud⟩⟩) := by
                have hl := HSL.out
                have ba : Below w.heap.size w (V3.alloc (.cells #[.string ⟨⟨un⟩⟩, .int .i64 uw, .int .i64 ua, .int .i64 ub, .int .i64 uc, .int .i64 ud] 53)) := HI2.out.be.alloc HI2.out.be.size _
                refine ⟨?_, fun z hz => ?_, (hb3.block _ (by omega)).trans (at_alloc HI2.out.bx), ba.trans (hb3.mono (by omega)), Nat.le_trans Z1.out hb3.size, ?_⟩
                · rw [List.take_of_length_le (by omega), List.drop_of_length_le (by omega)]
                  exact hr3
                · rw [List.drop_of_length_le (by omega)] at hz; cases hz
                · have := hr3.ge (g := g3) rfl; omega
              clear hr3 hb3 O1 Z1 R1 e9 e8 x0 x1 x2 x3 x4 x5
              go_wp2_with fail
              go_loopw [12] (fun x wr => ∃ (k : Nat), x = .int .i64 k ∧ k ≤ i ∧ Hid (∃ y, I4 w wr (w.heap.size + 1) ⟨l0, l1, l2, l3⟩ g3 i c3 St ⟨un, uw, ⟨ua, ub, uc, ud⟩⟩ k y)) (fun x _ => (intOf x).toNat)
              case atStart => exact ⟨i, rfl, Nat.le_refl _, _, H4.out⟩
              case round =>
                obtain ⟨k, rfl, hki, HK4⟩ := hrel
                clear H4
                obtain ⟨y, hy⟩ := HK4.out
                have HX : Hid (I4 w wr (w.heap.size + 1) ⟨l0, l1, l2, l3⟩ g3 i c3 St ⟨un, uw, ⟨ua, ub, uc, ud⟩⟩ k y) := hy
                clear HK4 hy
                rcases Nat.eq_zero_or_pos k with hk0 | hk0
                · have j1 : decide ((0 : Int) < (k : Int)) = false := decide_eq_false (by omega)
                  have j2 : decide (0 < k) = false := decide_eq_false (by omega)
                  have j3 : ¬ (0 : Int) < (k : Int) := by omega
                  have j4 : ¬ 0 < k := by omega
                  have HK : Hid (k = 0 ∨ ∃ z, St[k - 1]? = some z ∧ ¬ tb (ten ⟨l0, l1, l2, l3⟩ ⟨un, uw, ⟨ua, ub, uc, ud⟩⟩) (ten ⟨l0, l1, l2, l3⟩ z)) := .inl hk0
                  clear hk0
                  go_upto_region 18 with fail
                  go_quiet (fail)
                  have HX7 : Hid (I4 w (wr.drewN nq) (w.heap.size + 1) ⟨l0, l1, l2, l3⟩ g3 i c3 St ⟨un, uw, ⟨ua, ub, uc, ud⟩⟩ k y) := HX.out.below (below_drewN (Below.refl _ _) nq)
                  clear HX j1 j2 j3 j4
                  generalize wr.drewN nq = W7 at *
                  have HX : Hid (I4 w W7 (w.heap.size + 1) ⟨l0, l1, l2, l3⟩ g3 i c3 St ⟨un, uw, ⟨ua, ub, uc, ud⟩⟩ k y) := HX7.out
                  clear HX7
                  obtain ⟨⟨y0, y1, y2, y3, y4, y5⟩, yf⟩ := ru_at HX.out.r (mid_at St y k (by have := HSL.out; omega))
                  obtain ⟨ga', fa', ea', x0, x1, x2, x3, x4, x5⟩ := (HR.out.1.below HX.out.be).c i _ HU.out
                  cases ea'
                  have hkl : Hid (g3 < W7.heap.size) := HX.out.r.lt rfl
                  have hgl : g3 < W7.heap.size := hkl.out
                  have f0 := yf (k * 6)
                  have f1 := yf (k * 6 + 1)
                  have f2 := yf (k * 6 + 2)
                  have f3 := yf (k * 6 + 3)
                  have f4 := yf (k * 6 + 4)
                  have f5 := yf (k * 6 + 5)
                  clear yf
                  have k9 : (k : Int) < (i : Int) + 1 := by omega
                  go_upto_region 10 with fail
                  obtain ⟨W8, hW8⟩ : ∃ W8, W8 = ((((((W7.setCell ⟨g3, k * 6, none⟩ (.string ⟨⟨un⟩⟩)).setCell ⟨g3, k * 6 + 1, none⟩ (.int .i64 uw)).setCell ⟨g3, k * 6 + 2, none⟩ (.int .i64 ua)).setCell ⟨g3, k * 6 + 3, none⟩ (.int .i64 ub)).setCell ⟨g3, k * 6 + 4, none⟩ (.int .i64 uc)).setCell ⟨g3, k * 6 + 5, none⟩ (.int .i64 ud)) := ⟨_, rfl⟩
                  have H8 : Hid (I2 w W8 (w.heap.size + 1) ⟨l0, l1, l2, l3⟩ L (some ⟨g3, 0, none⟩) (i + 1) c3 (St.take k ++ ⟨un, uw, ⟨ua, ub, uc, ud⟩⟩ :: St.drop k)) := by
                    obtain ⟨s1, s2, s3, s4⟩ := HX.out.set ⟨un, uw, ⟨ua, ub, uc, ud⟩⟩ (by have := HSL.out; omega)
                    rw [hW8]
                    exact I4.fin HI2.out HU.out HZ.out HND.out HX.out.dr HK.out s1 s2 s3 s4
                  rw [← hW8]
                  clear hW8 x0 x1 x2 x3 x4 x5 y0 y1 y2 y3 y4 y5 f0 f1 f2 f3 f4 f5
                  go_wp2_with fail
                  exact ⟨⟨i + 1, some ⟨g3, 0, none⟩, c3, by simp, by simp, by omega, _, H8.out⟩, by simp [intOf]; omega⟩
                · obtain ⟨t, ht⟩ : ∃ t, k = t + 1 := ⟨k - 1, by omega⟩
                  obtain ⟨z, hz⟩ : ∃ z, St[t]? = some z := ⟨_, List.getElem?_eq_getElem (by have := HSL.out; omega)⟩
                  have hzm : (St.take k ++ y :: St.drop k)[t]? = some z := by rw [List.getElem?_append_left (by rw [List.length_take]; have := HSL.out; omega), List.getElem?_take, if_pos (by omega)]; exact hz
                  have hzL : er ⟨l0, l1, l2, l3⟩ z = 0 := HZ.out z (List.mem_of_mem_take (HI2.out.pm.mem_iff.1 (List.mem_of_getElem? hz)))
                  have H20 : Hid (∀ W, Calls Tryz.prog 30 #[.agg #[.int .i64 l0, .int .i64 l1, .int .i64 l2, .int .i64 l3], .agg #[.string ⟨⟨un⟩⟩, .int .i64 uw, .int .i64 ua, .int .i64 ub, .int .i64 uc, .int .i64 ud], .agg #[.string ⟨⟨z.nm⟩⟩, .int .i64 z.wt, .int .i64 z.v.a, .int .i64 z.v.b, .int .i64 z.v.c, .int .i64 z.v.d]] W fun e w' => e = .returned (.bool (bfT (ten ⟨l0, l1, l2, l3⟩ ⟨un, uw, ⟨ua, ub, uc, ud⟩⟩) (ten ⟨l0, l1, l2, l3⟩ z))) ∧ Below W.heap.size W w') := fun W => rbefore_any ⟨l0, l1, l2, l3⟩ ⟨un, uw, ⟨ua, ub, uc, ud⟩⟩ z W (HZ.out _ (List.mem_of_getElem? HU.out)) hzL
                  have HZT : Hid (St[t]? = some z ∧ k = t + 1) := ⟨hz, ht⟩
                  obtain ⟨⟨z0, z1, z2, z3, z4, z5⟩, -⟩ := ru_at HX.out.r hzm
                  obtain ⟨ga', fa', ea', x0, x1, x2, x3, x4, x5⟩ := (HR.out.1.below HX.out.be).c i _ HU.out
                  cases ea'
                  have hbx := HX.out.bx
                  rw [← HBW.out] at hbx
                  obtain ⟨v0, v1, v2, v3⟩ := c4b hbx
                  have g1 : (0 : Int) < (k : Int) := by omega
                  have g2 : decide ((0 : Int) < (k : Int)) = true := decide_eq_true g1
                  have g2' : decide (0 < k) = true := decide_eq_true hk0
                  have g3' : (k : Int) - 1 = (t : Int) := by omega
                  have g4 : IntKind.i64.wrap (t : Int) = (t : Int) := by simp [IntKind.wrap, IntKind.bits, IntKind.signed]; omega
                  have g5 : (t : Int) < (i : Int) + 1 := by omega
                  have g5' : t < i + 1 := by omega
                  have k9 : (k : Int) < (i : Int) + 1 := by omega
                  clear hz hzm ht hzL hbx
                  obtain ⟨zn, zw, ⟨za, zb, zc, zd⟩⟩ := z
                  simp only [] at z0 z1 z2 z3 z4 z5 x0 x1 x2 x3 x4 x5 H20
                  obtain ⟨bb, hbb⟩ : ∃ bb, bb = bfT (ten ⟨l0, l1, l2, l3⟩ ⟨un, uw, ⟨ua, ub, uc, ud⟩⟩) (ten ⟨l0, l1, l2, l3⟩ ⟨zn, zw, ⟨za, zb, zc, zd⟩⟩) := ⟨_, rfl⟩
                  rw [← hbb] at H20
                  have HBB : Hid (bb = bfT (ten ⟨l0, l1, l2, l3⟩ ⟨un, uw, ⟨ua, ub, uc, ud⟩⟩) (ten ⟨l0, l1, l2, l3⟩ ⟨zn, zw, ⟨za, zb, zc, zd⟩⟩)) := hbb
                  clear hbb
                  go_upto_region 18 with fail
                  have G20 := Vs.grown (W := wr) H20
                  have m0 := cell_regrown x0
                  have m1 := cell_regrown x1
                  have m2 := cell_regrown x2
                  have m3 := cell_regrown x3
                  have m4 := cell_regrown x4
                  have m5 := cell_regrown x5
                  have n0 := cell_regrown z0
                  have n1 := cell_regrown z1
                  have n2 := cell_regrown z2
                  have n3 := cell_regrown z3
                  have n4 := cell_regrown z4
                  have n5 := cell_regrown z5
                  have o0 := cell_regrown v0
                  have o1 := cell_regrown v1
                  have o2 := cell_regrown v2
                  have o3 := cell_regrown v3
                  refine wp_region_quiet_below (by kernel_rfl) (by kernel_rfl) ?_
                  repeat (first | go_big_quiet_step ((go_at_call 30; exact G20.out _ _)) | quiet_step ((go_at_call 30; exact G20.out _ _)))
                  refine wpQuiet_nil ?_
                  intro _ hw'
                  obtain ⟨⟨dq, osq⟩, hw''⟩ := hw'
                  subst hw''
                  have HX7 : Hid (I4 w (grow (redrawn wr dq) osq) (w.heap.size + 1) ⟨l0, l1, l2, l3⟩ g3 i c3 St ⟨un, uw, ⟨ua, ub, uc, ud⟩⟩ k y) := HX.out.below (below_regrown wr dq osq)
                  clear m0 m1 m2 m3 m4 m5 n0 n1 n2 n3 n4 n5 o0 o1 o2 o3 x0 x1 x2 x3 x4 x5 z0 z1 z2 z3 z4 z5 v0 v1 v2 v3 H20 G20 HX
                  generalize grow (redrawn wr dq) osq = W7 at *
                  have HX : Hid (I4 w W7 (w.heap.size + 1) ⟨l0, l1, l2, l3⟩ g3 i c3 St ⟨un, uw, ⟨ua, ub, uc, ud⟩⟩ k y) := HX7.out
                  clear HX7
                  cases bb with
                  | true =>
                    obtain ⟨⟨y0, y1, y2, y3, y4, y5⟩, yf⟩ := ru_at HX.out.r (mid_at St y k (by have := HSL.out; omega))
                    have hzm : (St.take k ++ y :: St.drop k)[t]? = some ⟨zn, zw, ⟨za, zb, zc, zd⟩⟩ := by rw [List.getElem?_append_left (by rw [List.length_take]; have := HSL.out; have := HZT.out.2; omega), List.getElem?_take, if_pos (by have := HZT.out.2; omega)]; exact HZT.out.1
                    obtain ⟨⟨z0, z1, z2, z3, z4, z5⟩, -⟩ := ru_at HX.out.r hzm
                    have hgl : g3 < W7.heap.size := HX.out.r.lt rfl
                    have f0 := yf (k * 6)
                    have f1 := yf (k * 6 + 1)
                    have f2 := yf (k * 6 + 2)
                    have f3 := yf (k * 6 + 3)
                    have f4 := yf (k * 6 + 4)
                    have f5 := yf (k * 6 + 5)
                    clear yf hzm
                    go_upto_region 20 with fail
                    obtain ⟨W8, hW8⟩ : ∃ W8, W8 = ((((((W7.setCell ⟨g3, k * 6, none⟩ (.string ⟨⟨zn⟩⟩)).setCell ⟨g3, k * 6 + 1, none⟩ (.int .i64 zw)).setCell ⟨g3, k * 6 + 2, none⟩ (.int .i64 za)).setCell ⟨g3, k * 6 + 3, none⟩ (.int .i64 zb)).setCell ⟨g3, k * 6 + 4, none⟩ (.int .i64 zc)).setCell ⟨g3, k * 6 + 5, none⟩ (.int .i64 zd)) := ⟨_, rfl⟩
                    have H8 : Hid (∃ y', I4 w W8 (w.heap.size + 1) ⟨l0, l1, l2, l3⟩ g3 i c3 St ⟨un, uw, ⟨ua, ub, uc, ud⟩⟩ t y') := by
                      obtain ⟨s1, s2, s3, s4⟩ := HX.out.set ⟨zn, zw, ⟨za, zb, zc, zd⟩⟩ (by have := HSL.out; omega)
                      rw [hW8]
                      have hk := HZT.out.2
                      refine ⟨⟨zn, zw, ⟨za, zb, zc, zd⟩⟩, ?_, fun x hx => ?_, s2, s3, s4, HX.out.gl⟩
                      · rw [← shift_eq HZT.out.1, ← hk]; exact s1
                      · obtain ⟨hl, hze⟩ := List.getElem?_eq_some_iff.1 HZT.out.1
                        rw [List.drop_eq_getElem_cons hl] at hx
                        rcases List.mem_cons.1 hx with rfl | hx
                        · rw [hze]; exact bfT_tb.1 HBB.out.symm
                        · exact HX.out.dr x (by rw [hk]; exact hx)
                    rw [← hW8]
                    clear hW8 y0 y1 y2 y3 y4 y5 z0 z1 z2 z3 z4 z5 f0 f1 f2 f3 f4 f5
                    go_wp2_with fail
                    exact ⟨⟨t, rfl, by omega, H8.out⟩, by simp [intOf]; omega⟩
                  | false =>
                    have HK : Hid (k = 0 ∨ ∃ z, St[k - 1]? = some z ∧ ¬ tb (ten ⟨l0, l1, l2, l3⟩ ⟨un, uw, ⟨ua, ub, uc, ud⟩⟩) (ten ⟨l0, l1, l2, l3⟩ z)) := .inr ⟨_, by rw [HZT.out.2]; exact HZT.out.1, fun q => by have := bfT_tb.2 q; rw [← HBB.out] at this; cases this⟩
                    obtain ⟨⟨y0, y1, y2, y3, y4, y5⟩, yf⟩ := ru_at HX.out.r (mid_at St y k (by have := HSL.out; omega))
                    obtain ⟨ga', fa', ea', x0, x1, x2, x3, x4, x5⟩ := (HR.out.1.below HX.out.be).c i _ HU.out
                    cases ea'
                    have hkl : Hid (g3 < W7.heap.size) := HX.out.r.lt rfl
                    have hgl : g3 < W7.heap.size := hkl.out
                    have f0 := yf (k * 6)
                    have f1 := yf (k * 6 + 1)
                    have f2 := yf (k * 6 + 2)
                    have f3 := yf (k * 6 + 3)
                    have f4 := yf (k * 6 + 4)
                    have f5 := yf (k * 6 + 5)
                    clear yf
                    have k9 : (k : Int) < (i : Int) + 1 := by omega
                    go_upto_region 10 with fail
                    obtain ⟨W8, hW8⟩ : ∃ W8, W8 = ((((((W7.setCell ⟨g3, k * 6, none⟩ (.string ⟨⟨un⟩⟩)).setCell ⟨g3, k * 6 + 1, none⟩ (.int .i64 uw)).setCell ⟨g3, k * 6 + 2, none⟩ (.int .i64 ua)).setCell ⟨g3, k * 6 + 3, none⟩ (.int .i64 ub)).setCell ⟨g3, k * 6 + 4, none⟩ (.int .i64 uc)).setCell ⟨g3, k * 6 + 5, none⟩ (.int .i64 ud)) := ⟨_, rfl⟩
                    have H8 : Hid (I2 w W8 (w.heap.size + 1) ⟨l0, l1, l2, l3⟩ L (some ⟨g3, 0, none⟩) (i + 1) c3 (St.take k ++ ⟨un, uw, ⟨ua, ub, uc, ud⟩⟩ :: St.drop k)) := by
                      obtain ⟨s1, s2, s3, s4⟩ := HX.out.set ⟨un, uw, ⟨ua, ub, uc, ud⟩⟩ (by have := HSL.out; omega)
                      rw [hW8]
                      exact I4.fin HI2.out HU.out HZ.out HND.out HX.out.dr HK.out s1 s2 s3 s4
                    rw [← hW8]
                    clear hW8 x0 x1 x2 x3 x4 x5 y0 y1 y2 y3 y4 y5 f0 f1 f2 f3 f4 f5
                    go_wp2_with fail
                    exact ⟨⟨i + 1, some ⟨g3, 0, none⟩, c3, by simp, by simp, by omega, _, H8.out⟩, by simp [intOf]; omega⟩
        · have i1 : ¬ (i : Int) < (n : Int) := by omega
          have i2 : decide ((i : Int) < (n : Int)) = false := decide_eq_false i1
          obtain ⟨St, hSt⟩ := HI.out
          have hT : L.take i = L := List.take_of_length_le (by have := HR.out.2; omega)
          have HI2 : Hid (RU (w.heap.size + 1) wr (.slice p i cc) St ∧ OrdR ⟨l0, l1, l2, l3⟩ L 0 (St.map (ten ⟨l0, l1, l2, l3⟩)) ∧ Below w.heap.size w wr ∧ w.heap.size + 1 ≤ wr.heap.size ∧ St.length = i) := by
            have h1 := hSt.pm
            have h2 := hSt.nd
            rw [hT] at h1 h2
            refine ⟨hSt.r, .inr (.inr ⟨fstE_zero.2 HZ.out, h2, rfl, h1.map _, List.pairwise_map.2 hSt.so⟩), hSt.be, hSt.sz, ?_⟩
            rw [h1.length_eq]; have := HR.out.2; omega
          clear HI hSt hT HZ HR HBW
          generalize wr = V3 at *
          go_wp2_with fail
          go_loopw [13, 14] (fun v x wr => ∃ (k : Nat) (q : Option Addr) (c5 : Nat), v = .slice q k c5 ∧ x = .int .i64 k ∧ k ≤ i ∧ Hid (SR V3.heap.size wr (.slice q k c5) ((St.take k).map U.nm) ∧ Below V3.heap.size V3 wr)) (fun _ x _ => i - (intOf x).toNat)
          case atStart => exact ⟨0, none, 0, rfl, rfl, Nat.zero_le _, GRow.nil _ _ _ _ _, Below.refl _ _⟩
          case round =>
            obtain ⟨k, q, c5, rfl, rfl, hki, HK⟩ := hrel
            by_cases hkl : k < i
            · obtain ⟨a, ha⟩ : ∃ a, St[k]? = some a := ⟨_, List.getElem?_eq_getElem (by have := HI2.out.2.2.2.2; omega)⟩
              obtain ⟨g3, rfl, hg⟩ := HI2.out.1.at uC_len ha
              have y0 := keep1c' HK.out.2 (hg 0 _ rfl)
              simp only [Nat.add_zero] at y0
              have k1 : (k : Int) < (i : Int) := by omega
              have k2 : decide ((k : Int) < (i : Int)) = true := decide_eq_true k1
              have O1 : Hid (SR V3.heap.size (wr.alloc (.cells #[.string ⟨⟨a.nm⟩⟩] 9)) (.slice q k c5) ((St.take k).map U.nm)) := HK.out.1.below ((Below.refl _ wr).alloc (Nat.le_refl _) _)
              have Z1 : Hid (V3.heap.size ≤ (wr.alloc (.cells #[.string ⟨⟨a.nm⟩⟩] 9)).heap.size) := by have := HK.out.2.size; show _ ≤ _; simp; omega
              have R1 : Hid (RowV (wr.alloc (.cells #[.string ⟨⟨a.nm⟩⟩] 9)) wr.heap.size 0 ([a.nm].flatMap sC)) := row_one new0 rfl
              have e9 : Hid (k + 1 ≤ maxLen) := by show _ ≤ _; unfold maxLen; omega
              have e8 : Hid ((k + 1) * 16 ≤ 140737488355328) := by show _ ≤ _; omega
              have HT : Hid ((St.take k).map U.nm ++ [a.nm] = (St.take (k + 1)).map U.nm) := by
                show _ = _
                rw [List.take_add_one, ha]
                simp
              have BW : Hid (Below V3.heap.size V3 (wr.alloc (.cells #[.string ⟨⟨a.nm⟩⟩] 9))) := HK.out.2.alloc HK.out.2.size _
              clear ha hg HK hki
              obtain ⟨an, aw, av⟩ := a
              simp only [] at y0 O1 Z1 R1 HT BW
              go_wp2_with (at_builtin; refine append_g (B := V3.heap.size) sC_len sC_one Tryz.underlying24 info9 rfl (by decide) rfl _ _ rfl q k c5 _ rfl O1.out Z1.out wr.heap.size 0 1 1 [an] rfl rfl R1.out e9.out e8.out ?_; intro p3 c3 w3 hr3 hb3)
              rw [HT.out] at hr3
              exact ⟨⟨k + 1, p3, c3, by simp, by simp, hkl, hr3, BW.out.trans hb3⟩, by simp [intOf]; omega⟩
            · have k1 : ¬ (k : Int) < (i : Int) := by omega
              have k2 : decide ((k : Int) < (i : Int)) = false := decide_eq_false k1
              have HF : Hid (OrdR ⟨l0, l1, l2, l3⟩ L 0 (St.map (ten ⟨l0, l1, l2, l3⟩)) ∧ SR w.heap.size wr (.slice q k c5) ((St.map (ten ⟨l0, l1, l2, l3⟩)).map Tn.nm) ∧ Below w.heap.size w wr) := by
                obtain ⟨h1, h2, h3, h4, h5⟩ := HI2.out
                have h6 := HK.out.1
                rw [List.take_of_length_le (by omega)] at h6
                refine ⟨h2, ?_, h3.trans (HK.out.2.mono h3.size)⟩
                rw [List.map_map]
                have e : (Tn.nm ∘ ten ⟨l0, l1, l2, l3⟩) = U.nm := rfl
                rw [e]
                refine ⟨h6.1, ?_⟩
                rcases h6.2 with x | ⟨g', cap, cur, e1, e2, e3⟩
                · exact .inl x
                · exact .inr ⟨g', cap, cur, e1, by omega, e3⟩
              clear HI2 HK
              go_wp2_with fail
              go_ret2
              exact ⟨q, k, c5, 0, _, rfl, by omega, HF.out.1, HF.out.2.1, HF.out.2.2⟩
end Go.Proofs.YtcgaekaollhmpaaGreat
