/-
  Fit.
-/
import Derived.Test.YtjgibngnjlciaaaGreatPd
namespace Go.Proofs.YtjgibngnjlciaaaGreat
open Go.RowKit Go.Maps Go.Sort

/-- a task is taken of the k-th slot -/
def setV (S : List Sl) (k : Nat) (v : V) : List Sl := S.modify k fun s => ⟨s.nm, s.v.sub v⟩
/-- the slots that are left, and the nodes -/
abbrev St := List Sl × List (List UInt8)
def stepF (T : List V) (t : Nat) (st : St) : Option St := match hold (tg T t) st.1 with
  | none => none
  | some k => some (setV st.1 k (tg T t), st.2.set t (st.1.getD k default).nm)
def fitG (T : List V) : List Nat → St → Option St
  | [], st => some st
  | t :: r, st => (stepF T t st).bind (fitG T r)
theorem fitG_append (T : List V) : ∀ (l m : List Nat) (st : St), fitG T (l ++ m) st = (fitG T l st).bind (fitG T m)
  | [], m, st => rfl
  | t :: r, m, st => by
    show (stepF T t st).bind (fitG T (r ++ m)) = ((stepF T t st).bind (fitG T r)).bind (fitG T m)
    cases stepF T t st with
    | none => rfl
    | some s => exact fitG_append T r m s
def fit0 (T : List V) (S : List Sl) : St := (S, List.replicate T.length [])
/-- what Fit answers -/
def fitR (T : List V) (S : List Sl) : Nat × List (List UInt8) := if chk T S = 0 then (match fitG T (ordT T) (fit0 T S) with
  | none => (6, [])
  | some st => (0, st.2)) else (chk T S, [])
theorem setV_get {S : List Sl} {k i : Nat} {v : V} : (setV S k v)[i]? = if k = i then (S[i]?).map (fun s => ⟨s.nm, s.v.sub v⟩) else S[i]? := by
  unfold setV
  rw [List.getElem?_modify]
  split
  · rfl
  · simp
theorem setV_length (S : List Sl) (k : Nat) (v : V) : (setV S k v).length = S.length := by unfold setV; rw [List.length_modify]
theorem setV_eq {S : List Sl} {k : Nat} {s : Sl} (h : S[k]? = some s) (v : V) : setV S k v = S.set k ⟨s.nm, s.v.sub v⟩ := by
  refine List.ext_getElem? fun i => ?_
  rw [setV_get, List.getElem?_set]
  obtain ⟨hl, e⟩ := List.getElem?_eq_some_iff.1 h
  by_cases q : k = i
  · subst q
    rw [if_pos rfl, if_pos rfl, h, if_pos hl]
    rfl
  · rw [if_neg q, if_neg q]
theorem setV_nm (S : List Sl) (k : Nat) (v : V) : (setV S k v).map Sl.nm = S.map Sl.nm := by
  refine List.ext_getElem? fun i => ?_
  rw [List.getElem?_map, List.getElem?_map, setV_get]
  split
  · cases S[i]? <;> rfl
  · rfl
theorem okI_sub {a b : Int} (h1 : okI a = true) (h2 : okI b = true) (h3 : a ≤ b) : okI (b - a) = true := by
  rw [okI_iff] at *
  omega
theorem sub_ok {v u : V} (hv : v.ok = true) (hu : u.ok = true) (h : ftV v u = true) : (u.sub v).ok = true := by
  unfold ftV ft at h
  unfold V.ok fm at *
  simp only [Bool.and_eq_true, decide_eq_true_eq] at *
  unfold V.sub
  exact ⟨okI_sub hv.1 hu.1 h.1, okI_sub hv.2.1 hu.2.1 h.2.1, okI_sub hv.2.2.1 hu.2.2.1 h.2.2.1, okI_sub hv.2.2.2 hu.2.2.2 h.2.2.2⟩
theorem setV_ok {S : List Sl} {k : Nat} {v : V} {s : Sl} (hS : allS S = true) (hk : S[k]? = some s) (hv : v.ok = true) (hf : ftV v s.v = true) : allS (setV S k v) = true := by
  refine List.all_eq_true.2 fun x hx => ?_
  rw [setV_eq hk] at hx
  rcases List.mem_or_eq_of_mem_set hx with q | q
  · exact List.all_eq_true.1 hS x q
  · subst q
    exact sub_ok hv (List.all_eq_true.1 hS s (List.mem_of_getElem? hk)) hf
theorem short_nm {S S' : List Sl} (h : Short S) (e : S'.map Sl.nm = S.map Sl.nm) : Short S' := fun s hs => by
  have : s.nm ∈ S'.map Sl.nm := List.mem_map_of_mem hs
  rw [e] at this
  obtain ⟨x, hx, ex⟩ := List.mem_map.1 this
  rw [← ex]
  exact h x hx
theorem flat_set {α : Type} {f : α → List Value} {sz : Nat} (hf : ∀ a, (f a).length = sz) : ∀ {L : List α} {k j : Nat} {a b : α} {x : Value}, L[k]? = some a → j < sz → f b = (f a).set j x → (L.set k b).flatMap f = (L.flatMap f).set (k * sz + j) x
  | [], k, j, a, b, x, h, _, _ => by simp at h
  | c :: r, 0, j, a, b, x, h, hj, hb => by
    have e : c = a := by simpa using h
    subst e
    rw [List.set_cons_zero, List.flatMap_cons, List.flatMap_cons, hb, Nat.zero_mul, Nat.zero_add, List.set_append_left _ _ (by rw [hf]; exact hj)]
  | c :: r, k + 1, j, a, b, x, h, hj, hb => by
    have ih := flat_set hf (L := r) (k := k) (j := j) (by simpa using h) hj hb
    rw [List.set_cons_succ, List.flatMap_cons, List.flatMap_cons, ih, List.set_append_right _ _ (by rw [hf, Nat.succ_mul]; omega), hf, show (k + 1) * sz + j - sz = k * sz + j by rw [Nat.succ_mul]; omega]
theorem grow_cell {α : Type} {f : α → List Value} {e sz : Nat} (hf : ∀ a, (f a).length = sz) {b : Nat} {W : World} {g n c k j : Nat} {L : List α} {u u' : α} {x : Value} (h : GRow e sz f b W (.slice (some ⟨g, 0, none⟩) n c) L) (hu : L[k]? = some u) (hj : j < sz) (he : f u' = (f u).set j x) : GRow e sz f b (W.setCell ⟨g, k * sz + j, none⟩ x) (.slice (some ⟨g, 0, none⟩) n c) (L.set k u') := by
  refine ⟨by rw [flat_length hf], ?_⟩
  rcases h.2 with ⟨e, _⟩ | ⟨g', cap, cur, e1, hge, hg, h1, h2, h3, h4⟩
  · cases e
  · have hl := h.len
    injection e1 with e2 e3 e4
    injection e2 with e5
    injection e5 with e6
    subst e6 e4
    refine .inr ⟨g, c, cur.setIfInBounds (k * sz + j) x, by rw [List.length_set, hl], hge, setB hg x, by simpa using h1, h2, by simpa using h3, ?_⟩
    rw [Array.toList_setIfInBounds, List.length_set, List.take_set, h4, flat_set hf hu hj he]
theorem grow_blk {α : Type} {f : α → List Value} {e sz b : Nat} {W : World} {g n c : Nat} {L : List α} (h : GRow e sz f b W (.slice (some ⟨g, 0, none⟩) n c) L) : ∃ cur, W.heap[g]? = some (.cells cur e (0, 0)) := by
  rcases h.2 with ⟨e, _⟩ | ⟨g', cap, cur, e1, hge, hg, _⟩
  · cases e
  · injection e1 with e2
    injection e2 with e5
    injection e5 with e6
    subst e6
    exact ⟨cur, hg⟩
/-- the four numbers of a slot, written -/
theorem grow_free {e b : Nat} {W : World} {g n c k : Nat} {L : List Sl} {s : Sl} (v : V) (h : GRow e 5 slC b W (.slice (some ⟨g, 0, none⟩) n c) L) (hu : L[k]? = some s) :
    GRow e 5 slC b ((((W.setCell ⟨g, k * 5 + 1, none⟩ (.int .i64 v.a)).setCell ⟨g, k * 5 + 1 + 1, none⟩ (.int .i64 v.b)).setCell ⟨g, k * 5 + 1 + 2, none⟩ (.int .i64 v.c)).setCell ⟨g, k * 5 + 1 + 3, none⟩ (.int .i64 v.d)) (.slice (some ⟨g, 0, none⟩) n c) (L.set k ⟨s.nm, v⟩) := by
  have hk := (List.getElem?_eq_some_iff.1 hu).1
  obtain ⟨un, ⟨ua, ub, uc, ud⟩⟩ := s
  obtain ⟨va, vb, vc, vd⟩ := v
  have at' : ∀ (M : List Sl) (y : Sl), k < M.length → (M.set k y)[k]? = some y := fun M y hM => by rw [List.getElem?_set_self hM]
  have h1 := grow_cell slC_len (u' := ⟨un, ⟨va, ub, uc, ud⟩⟩) (j := 1) h hu (by omega) rfl
  have h2 := grow_cell slC_len (u' := ⟨un, ⟨va, vb, uc, ud⟩⟩) (j := 2) h1 (at' _ _ hk) (by omega) rfl
  rw [List.set_set] at h2
  have h3 := grow_cell slC_len (u' := ⟨un, ⟨va, vb, vc, ud⟩⟩) (j := 3) h2 (at' _ _ hk) (by omega) rfl
  rw [List.set_set] at h3
  have h4 := grow_cell slC_len (u' := ⟨un, ⟨va, vb, vc, vd⟩⟩) (j := 4) h3 (at' _ _ hk) (by omega) rfl
  rw [List.set_set] at h4
  exact h4
theorem grow_name {e b : Nat} {W : World} {g n c k : Nat} {L : List Sl} {s : Sl} (nm : List UInt8) (h : GRow e 5 slC b W (.slice (some ⟨g, 0, none⟩) n c) L) (hu : L[k]? = some s) :
    GRow e 5 slC b (W.setCell ⟨g, k * 5, none⟩ (.string ⟨⟨nm⟩⟩)) (.slice (some ⟨g, 0, none⟩) n c) (L.set k ⟨nm, s.v⟩) :=
  grow_cell slC_len (u' := ⟨nm, s.v⟩) (j := 0) h hu (by omega) rfl
theorem grow_at {e b : Nat} {W : World} {g n c k : Nat} {L : List Sl} {s : Sl} (h : GRow e 5 slC b W (.slice (some ⟨g, 0, none⟩) n c) L) (hu : L[k]? = some s) :
    (W.cell? ⟨g, k * 5, none⟩ = some (.string ⟨⟨s.nm⟩⟩) ∧ W.cell? ⟨g, k * 5 + 1, none⟩ = some (.int .i64 s.v.a) ∧ W.cell? ⟨g, k * 5 + 1 + 1, none⟩ = some (.int .i64 s.v.b) ∧ W.cell? ⟨g, k * 5 + 1 + 2, none⟩ = some (.int .i64 s.v.c) ∧ W.cell? ⟨g, k * 5 + 1 + 3, none⟩ = some (.int .i64 s.v.d)) ∧ ∀ j, W.frozen? ⟨g, j, none⟩ = false := by
  obtain ⟨g', e1, hc⟩ := h.at slC_len hu
  cases e1
  obtain ⟨cur, hb⟩ := grow_blk h
  exact ⟨⟨hc 0 _ rfl, hc 1 _ rfl, hc 2 _ rfl, hc 3 _ rfl, hc 4 _ rfl⟩, fun j => fz hb j⟩
def sV (s : List UInt8) : Value := .string ⟨⟨s⟩⟩
/-- while tasks are placed -/
structure Fl (w wr : World) (T : List V) (S : List Sl) (p : Option Addr) (m c gN gT k : Nat) (st : St) : Prop where
  f : fitG T ((ordT T).take k) (fit0 T S) = some st
  l : SR w.heap.size wr (.slice p m c) st.1
  n : LB 9 sV wr gN st.2
  t : LB 3 nI wr gT (ordT T)
  b : Below w.heap.size w wr
  g : w.heap.size ≤ gN
  o : allS st.1 = true
  m : st.1.map Sl.nm = S.map Sl.nm
  z : st.2.length = T.length
theorem Fl.below {w wr w1 : World} {T : List V} {S : List Sl} {p : Option Addr} {m c gN gT k : Nat} {st : St} (h : Fl w wr T S p m c gN gT k st) (b : Below wr.heap.size wr w1) : Fl w w1 T S p m c gN gT k st :=
  ⟨h.f, h.l.below b, h.n.below b, h.t.below b, below_from h.b b h.b.size, h.g, h.o, h.m, h.z⟩
theorem take_next {α : Type} {l : List α} {k : Nat} {x : α} (h : l[k]? = some x) : l.take (k + 1) = l.take k ++ [x] := by rw [List.take_add_one, h]; rfl
theorem Fl.wrote {w wr : World} {T : List V} {S : List Sl} {m c gN gT k t i gl : Nat} {st : St} {s : Sl} {nt : List UInt8} (h : Fl w wr T S (some ⟨gl, 0, none⟩) m c gN gT k st) (ht : (ordT T)[k]? = some t) (hh : hold (tg T t) st.1 = some i) (hs : st.1[i]? = some s) (hf : ftV (tg T t) s.v = true) (ho : (tg T t).ok = true) (hnt : st.2[t]? = some nt) :
    ((((wr.setCell ⟨gl, i * 5 + 1, none⟩ (.int .i64 (s.v.sub (tg T t)).a)).setCell ⟨gl, i * 5 + 1 + 1, none⟩ (.int .i64 (s.v.sub (tg T t)).b)).setCell ⟨gl, i * 5 + 1 + 2, none⟩ (.int .i64 (s.v.sub (tg T t)).c)).setCell ⟨gl, i * 5 + 1 + 3, none⟩ (.int .i64 (s.v.sub (tg T t)).d)).cell? ⟨gl, i * 5, none⟩ = some (.string ⟨⟨s.nm⟩⟩) ∧
    ∀ W7, Below ((((wr.setCell ⟨gl, i * 5 + 1, none⟩ (.int .i64 (s.v.sub (tg T t)).a)).setCell ⟨gl, i * 5 + 1 + 1, none⟩ (.int .i64 (s.v.sub (tg T t)).b)).setCell ⟨gl, i * 5 + 1 + 2, none⟩ (.int .i64 (s.v.sub (tg T t)).c)).setCell ⟨gl, i * 5 + 1 + 3, none⟩ (.int .i64 (s.v.sub (tg T t)).d)).heap.size ((((wr.setCell ⟨gl, i * 5 + 1, none⟩ (.int .i64 (s.v.sub (tg T t)).a)).setCell ⟨gl, i * 5 + 1 + 1, none⟩ (.int .i64 (s.v.sub (tg T t)).b)).setCell ⟨gl, i * 5 + 1 + 2, none⟩ (.int .i64 (s.v.sub (tg T t)).c)).setCell ⟨gl, i * 5 + 1 + 3, none⟩ (.int .i64 (s.v.sub (tg T t)).d)) W7 →
      W7.cell? ⟨gN, t, none⟩ = some (.string ⟨⟨nt⟩⟩) ∧ W7.frozen? ⟨gN, t, none⟩ = false ∧ gN < W7.heap.size ∧ Fl w (W7.setCell ⟨gN, t, none⟩ (.string ⟨⟨s.nm⟩⟩)) T S (some ⟨gl, 0, none⟩) m c gN gT (k + 1) (setV st.1 i (tg T t), st.2.set t s.nm) := by
  obtain ⟨cur, hb⟩ := grow_blk h.l
  have nl : gN ≠ gl := fun e => by have := h.n; unfold LB at this; rw [e, hb] at this; injection this with q; injection q with _ q2; cases q2
  have tl : gT ≠ gl := fun e => by have := h.t; unfold LB at this; rw [e, hb] at this; injection this with q; injection q with _ q2; cases q2
  have tn : gT ≠ gN := fun e => by have := h.t; unfold LB at this; rw [e, h.n] at this; injection this with q; injection q with _ q2; cases q2
  have hg := h.l.ge (g := gl) rfl
  have hG := grow_free (s.v.sub (tg T t)) h.l hs
  have hk := (List.getElem?_eq_some_iff.1 hs).1
  have b4 : Below w.heap.size w ((((wr.setCell ⟨gl, i * 5 + 1, none⟩ (.int .i64 (s.v.sub (tg T t)).a)).setCell ⟨gl, i * 5 + 1 + 1, none⟩ (.int .i64 (s.v.sub (tg T t)).b)).setCell ⟨gl, i * 5 + 1 + 2, none⟩ (.int .i64 (s.v.sub (tg T t)).c)).setCell ⟨gl, i * 5 + 1 + 3, none⟩ (.int .i64 (s.v.sub (tg T t)).d)) := (((h.b.setCell hg _).setCell hg _).setCell hg _).setCell hg _
  have hN : LB 9 sV ((((wr.setCell ⟨gl, i * 5 + 1, none⟩ (.int .i64 (s.v.sub (tg T t)).a)).setCell ⟨gl, i * 5 + 1 + 1, none⟩ (.int .i64 (s.v.sub (tg T t)).b)).setCell ⟨gl, i * 5 + 1 + 2, none⟩ (.int .i64 (s.v.sub (tg T t)).c)).setCell ⟨gl, i * 5 + 1 + 3, none⟩ (.int .i64 (s.v.sub (tg T t)).d)) gN st.2 := by
    refine LB.at h.n ?_
    rw [Below.heap_setCell _ _ _ _ nl, Below.heap_setCell _ _ _ _ nl, Below.heap_setCell _ _ _ _ nl, Below.heap_setCell _ _ _ _ nl]
  have hT : LB 3 nI ((((wr.setCell ⟨gl, i * 5 + 1, none⟩ (.int .i64 (s.v.sub (tg T t)).a)).setCell ⟨gl, i * 5 + 1 + 1, none⟩ (.int .i64 (s.v.sub (tg T t)).b)).setCell ⟨gl, i * 5 + 1 + 2, none⟩ (.int .i64 (s.v.sub (tg T t)).c)).setCell ⟨gl, i * 5 + 1 + 3, none⟩ (.int .i64 (s.v.sub (tg T t)).d)) gT (ordT T) := by
    refine LB.at h.t ?_
    rw [Below.heap_setCell _ _ _ _ tl, Below.heap_setCell _ _ _ _ tl, Below.heap_setCell _ _ _ _ tl, Below.heap_setCell _ _ _ _ tl]
  generalize ((((wr.setCell ⟨gl, i * 5 + 1, none⟩ (.int .i64 (s.v.sub (tg T t)).a)).setCell ⟨gl, i * 5 + 1 + 1, none⟩ (.int .i64 (s.v.sub (tg T t)).b)).setCell ⟨gl, i * 5 + 1 + 2, none⟩ (.int .i64 (s.v.sub (tg T t)).c)).setCell ⟨gl, i * 5 + 1 + 3, none⟩ (.int .i64 (s.v.sub (tg T t)).d)) = W6 at *
  refine ⟨(grow_at hG (List.getElem?_set_self hk)).1.1, fun W7 b7 => ⟨(hN.below b7).cell hnt, (hN.below b7).fz t, (hN.below b7).lt, ?_, ?_, (hN.below b7).set t s.nm, ?_, (below_from b4 b7 b4.size).setCell h.g _, h.g, setV_ok h.o hs ho hf, (setV_nm _ _ _).trans h.m, by rw [List.length_set]; exact h.z⟩⟩
  · rw [take_next ht, fitG_append, h.f]
    show (stepF T t st).bind (fitG T []) = _
    unfold stepF
    rw [hh]
    show some _ = some _
    rw [show (st.1.getD i default) = s by rw [List.getD_eq_getElem?_getD, hs]; rfl]
  · rw [setV_eq hs]
    refine GRow.keep (hG.below b7) fun g e => ?_
    have : gl = g := Option.some.inj e
    subst this
    exact Below.heap_setCell _ _ _ _ (Ne.symm nl)
  · exact LB.at (hT.below b7) (Below.heap_setCell _ _ _ _ tn)
theorem take_none {T : List V} {st : St} {k t : Nat} {st0 : St} (h : fitG T ((ordT T).take k) st0 = some st) (ht : (ordT T)[k]? = some t) (hh : hold (tg T t) st.1 = none) : fitG T (ordT T) st0 = none := by
  have e : ordT T = (ordT T).take k ++ t :: (ordT T).drop (k + 1) := by
    obtain ⟨hl, e⟩ := List.getElem?_eq_some_iff.1 ht
    rw [← e, ← List.drop_eq_getElem_cons hl, List.take_append_drop]
  rw [e, fitG_append, h]
  show (stepF T t st).bind _ = none
  unfold stepF
  rw [hh]
  rfl
end Go.Proofs.YtjgibngnjlciaaaGreat
