/-
  Plain mathematics: what the program's reader reads and what the document's reads, where both are good. Plain mathematics: a job and a list of texts, as the program's reader and the document's read them. Plain mathematics: one field more, read strictly, good or bad; a list of them; a job.
-/
import Derived.Test.YtnkkiepoljbhlaaDm
namespace Go.Proofs.Ytnkkiepoljbhlaa
open Go.RowKit

theorem num_to {l : List UInt8} {n : Nat} {r : List UInt8} (h : numD 7 l = some (n, r)) : pNum (some l) = (n, some r) := pNum_some (numA_more (by decide) h)
theorem num_lt7 {l : List UInt8} {n : Nat} {r : List UInt8} (h : numD 7 l = some (n, r)) : n < 562949953421312 := by
  have := numA_lt (lim := 7) (i := 0) (n := 0) (by decide) h
  have h4 : (128 : Nat) ^ 7 = 562949953421312 := by decide
  omega
theorem num_from {l : List UInt8} {n : Nat} {r : List UInt8} (h : pNum (some l) = (n, some r)) (hn : n < 562949953421312) : numD 7 l = some (n, r) := by
  cases h9 : numA 9 0 0 l with
  | none => rw [pNum_none h9] at h; cases h
  | some x =>
    obtain ⟨m, s⟩ := x
    rw [pNum_some h9] at h
    obtain ⟨rfl, h2⟩ := Prod.mk.inj h
    obtain rfl := Option.some.inj h2
    cases h7 : numA 7 0 0 l with
    | none =>
      have := numA_big (by decide) h7 h9
      have h4 : (128 : Nat) ^ 7 = 562949953421312 := by decide
      omega
    | some y =>
      have := numA_more (lim' := 9) (by decide) h7
      rw [h9] at this
      show numA 7 0 0 l = _
      rw [h7, ← this]
theorem pNum_st {st : Option (List UInt8)} {n : Nat} {r : List UInt8} (h : pNum st = (n, some r)) : ∃ l, st = some l := by
  cases st with
  | none => cases h
  | some l => exact ⟨l, rfl⟩
theorem pUp_st {m : Nat} {st : Option (List UInt8)} {n : Nat} {r : List UInt8} (h : pUp m st = (n, some r)) : n ≤ m ∧ pNum st = (n, some r) := by
  unfold pUp at h
  by_cases h1 : m < (pNum st).1
  · rw [if_pos h1] at h; cases h
  · rw [if_neg h1] at h
    exact ⟨by rw [h] at h1; exact Nat.le_of_not_lt h1, h⟩
theorem up_to {m : Nat} {l : List UInt8} {n : Nat} {r : List UInt8} (h : numD 7 l = some (n, r)) (hn : n ≤ m) : pUp m (some l) = (n, some r) := by
  unfold pUp
  rw [num_to h]
  exact if_neg (Nat.not_lt.2 hn)
theorem txtD_some {l s r : List UInt8} (h : txtD l = some (s, r)) : ∃ n q, numD 7 l = some (n, q) ∧ n ≤ q.length ∧ s = q.take n ∧ r = q.drop n ∧ s.length = n := by
  unfold txtD at h
  obtain ⟨⟨n, q⟩, h1, h2⟩ := Option.bind_eq_some_iff.1 h
  simp only at h2
  by_cases h3 : n ≤ q.length
  · rw [if_pos h3] at h2
    obtain ⟨h4, h5⟩ := Prod.mk.inj (Option.some.inj h2)
    exact ⟨n, q, h1, h3, h4.symm, h5.symm, by rw [← h4, List.length_take]; omega⟩
  · rw [if_neg h3] at h2; cases h2
theorem txt_to {l s r : List UInt8} (h : txtD l = some (s, r)) (hs : s.length ≤ 64) : pTxt (some l) = (s, some r) := by
  obtain ⟨n, q, h1, h2, h3, h4, h5⟩ := txtD_some h
  have h6 := up_to (m := 64) h1 (by omega)
  unfold pTxt
  rw [h6]
  show (if q.length < n then _ else _) = _
  rw [if_neg (by omega), h3, h4]
theorem txt_from {l s r : List UInt8} (h : pTxt (some l) = (s, some r)) : txtD l = some (s, r) ∧ s.length ≤ 64 := by
  unfold pTxt at h
  cases hq : pUp 64 (some l) with
  | mk n q =>
    rw [hq] at h
    cases q with
    | none => cases h
    | some q =>
      have h' : (if q.length < n then (([], none) : List UInt8 × Option (List UInt8)) else (q.take n, some (q.drop n))) = (s, some r) := h
      by_cases h1 : q.length < n
      · rw [if_pos h1] at h'; cases h'
      · rw [if_neg h1] at h'
        obtain ⟨h2, h3⟩ := Prod.mk.inj h'
        have h3 := Option.some.inj h3
        obtain ⟨h4, h5⟩ := pUp_st hq
        have h6 := num_from h5 (by omega)
        refine ⟨?_, by rw [← h2, List.length_take]; omega⟩
        unfold txtD
        rw [h6]
        show (if n ≤ q.length then _ else _) = _
        rw [if_pos (by omega), h2, h3]
theorem pTxt_st {st : Option (List UInt8)} {s r : List UInt8} (h : pTxt st = (s, some r)) : ∃ l, st = some l := by
  cases st with
  | none => cases h
  | some l => exact ⟨l, rfl⟩
def V4.lt49 (v : V4) : Prop := v.a < 562949953421312 ∧ v.b < 562949953421312 ∧ v.c < 562949953421312 ∧ v.d < 562949953421312
theorem vec_to {l : List UInt8} {v : V4} {r : List UInt8} (h : vecD l = some (v, r)) : pVec (some l) = (v, some r) := by
  unfold vecD at h
  obtain ⟨⟨a, l1⟩, h1, h⟩ := Option.bind_eq_some_iff.1 h
  obtain ⟨⟨b, l2⟩, h2, h⟩ := Option.bind_eq_some_iff.1 h
  obtain ⟨⟨c, l3⟩, h3, h⟩ := Option.bind_eq_some_iff.1 h
  obtain ⟨⟨d, l4⟩, h4, h⟩ := Option.bind_eq_some_iff.1 h
  obtain ⟨e1, e2⟩ := Prod.mk.inj (Option.some.inj h)
  unfold pVec
  rw [num_to h1]
  simp only
  rw [num_to h2]
  simp only
  rw [num_to h3]
  simp only
  rw [num_to h4]
  simp only at e1 e2 ⊢
  rw [e1, e2]
theorem vec_from {l : List UInt8} {v : V4} {r : List UInt8} (h : pVec (some l) = (v, some r)) (hv : v.lt49) : vecD l = some (v, r) := by
  unfold pVec at h
  cases h1 : pNum (some l) with
  | mk a s1 =>
    rw [h1] at h
    cases h2 : pNum s1 with
    | mk b s2 =>
      simp only [h2] at h
      cases h3 : pNum s2 with
      | mk c s3 =>
        simp only [h3] at h
        cases h4 : pNum s3 with
        | mk d s4 =>
          simp only [h4] at h
          obtain ⟨rfl, rfl⟩ := Prod.mk.inj h
          obtain ⟨l3, rfl⟩ := pNum_st h4
          obtain ⟨l2, rfl⟩ := pNum_st h3
          obtain ⟨l1, rfl⟩ := pNum_st h2
          obtain ⟨v1, v2, v3, v4⟩ := hv
          simp only at v1 v2 v3 v4
          unfold vecD
          rw [num_from h1 (by omega)]
          show Option.bind (numD 7 l1) _ = _
          rw [num_from h2 (by omega)]
          show Option.bind (numD 7 l2) _ = _
          rw [num_from h3 (by omega)]
          show Option.bind (numD 7 l3) _ = _
          rw [num_from h4 (by omega)]
          rfl
/-- so many of them, read strictly -/
def repD {α : Type} (f : List UInt8 → Option (α × List UInt8)) : Nat → List UInt8 → Option (List α × List UInt8)
  | 0, l => some ([], l)
  | n + 1, l => (f l).bind fun a => (repD f n a.2).bind fun r => some (a.1 :: r.1, r.2)
theorem repD_snoc {α : Type} (f : List UInt8 → Option (α × List UInt8)) : ∀ (n : Nat) (l : List UInt8), repD f (n + 1) l = (repD f n l).bind fun r => (f r.2).bind fun a => some (r.1 ++ [a.1], a.2)
  | 0, l => by
    unfold repD
    cases h : f l with
    | none => show none = (f l).bind _; rw [h]; rfl
    | some a => show some _ = (f l).bind _; rw [h]; rfl
  | n + 1, l => by
    show (f l).bind _ = _
    cases h : f l with
    | none => simp [repD, h]
    | some a =>
      show (repD f (n + 1) a.2).bind _ = _
      rw [repD_snoc f n a.2]
      show _ = ((f l).bind _).bind _
      rw [h]
      cases h2 : repD f n a.2 with
      | none => simp [h2]
      | some b =>
        simp only [Option.bind_some, h2]
        cases h3 : f b.2 with
        | none => simp
        | some c => simp
theorem repD_len {α : Type} {f : List UInt8 → Option (α × List UInt8)} : ∀ {n : Nat} {l : List UInt8} {xs : List α} {r : List UInt8}, repD f n l = some (xs, r) → xs.length = n
  | 0, l, xs, r, h => by cases h; rfl
  | n + 1, l, xs, r, h => by
    obtain ⟨⟨a, l1⟩, h1, h⟩ := Option.bind_eq_some_iff.1 h
    obtain ⟨⟨b, l2⟩, h2, h⟩ := Option.bind_eq_some_iff.1 h
    obtain ⟨e1, e2⟩ := Prod.mk.inj (Option.some.inj h)
    rw [← e1, List.length_cons, repD_len h2]
theorem rep_to {α β : Type} {f : List UInt8 → Option (α × List UInt8)} {g : Option (List UInt8) → β × Option (List UInt8)} {c : α → β} {P : α → Prop} (H : ∀ l x r, f l = some (x, r) → P x → g (some l) = (c x, some r)) : ∀ {n : Nat} {l : List UInt8} {xs : List α} {r : List UInt8}, repD f n l = some (xs, r) → (∀ x ∈ xs, P x) → pRep g n (some l) = (xs.map c, some r)
  | 0, l, xs, r, h, _ => by cases h; rfl
  | n + 1, l, xs, r, h, hp => by
    obtain ⟨⟨a, l1⟩, h1, h⟩ := Option.bind_eq_some_iff.1 h
    obtain ⟨⟨b, l2⟩, h2, h⟩ := Option.bind_eq_some_iff.1 h
    obtain ⟨e1, e2⟩ := Prod.mk.inj (Option.some.inj h)
    simp only at e1 e2
    subst e1 e2
    have h3 := H l a l1 h1 (hp a (List.mem_cons_self ..))
    have h4 := rep_to H h2 (fun x hx => hp x (List.mem_cons_of_mem _ hx))
    show ((g (some l)).1 :: (pRep g n (g (some l)).2).1, (pRep g n (g (some l)).2).2) = _
    rw [h3]
    simp only
    rw [h4]
    rfl
theorem pRep_none {β : Type} {g : Option (List UInt8) → β × Option (List UInt8)} (h0 : (g none).2 = none) : ∀ n, (pRep g n none).2 = none
  | 0 => rfl
  | n + 1 => by
    show (pRep g n (g none).2).2 = none
    rw [h0]
    exact pRep_none h0 n
theorem rep_from {α β : Type} {f : List UInt8 → Option (α × List UInt8)} {g : Option (List UInt8) → β × Option (List UInt8)} {c : α → β} {Q : β → Prop} (h0 : (g none).2 = none) (H : ∀ l y r, g (some l) = (y, some r) → Q y → ∃ x, f l = some (x, r) ∧ c x = y) : ∀ {n : Nat} {l : List UInt8} {ys : List β} {r : List UInt8}, pRep g n (some l) = (ys, some r) → (∀ y ∈ ys, Q y) → ∃ xs, repD f n l = some (xs, r) ∧ xs.map c = ys
  | 0, l, ys, r, h, _ => by cases h; exact ⟨[], rfl, rfl⟩
  | n + 1, l, ys, r, h, hq => by
    have h' : ((g (some l)).1 :: (pRep g n (g (some l)).2).1, (pRep g n (g (some l)).2).2) = (ys, some r) := h
    cases h1 : g (some l) with
    | mk y s =>
      rw [h1] at h'
      simp only at h'
      cases s with
      | none =>
        have := (Prod.mk.inj h').2
        rw [pRep_none h0] at this
        cases this
      | some l1 =>
        obtain ⟨e1, e2⟩ := Prod.mk.inj h'
        subst e1
        obtain ⟨x, hx, hc⟩ := H l y l1 h1 (hq y (List.mem_cons_self ..))
        obtain ⟨xs, hxs, hm⟩ := rep_from h0 H (n := n) (l := l1) (r := r) (Prod.ext rfl e2) (fun z hz => hq z (List.mem_cons_of_mem _ hz))
        refine ⟨x :: xs, ?_, by rw [List.map_cons, hc, hm]⟩
        show (f l).bind _ = _
        rw [hx]
        show (repD f n l1).bind _ = _
        rw [hxs]
        rfl
end Go.Proofs.Ytnkkiepoljbhlaa

namespace Go.Proofs.Ytnkkiepoljbhlaa
open Go.RowKit

/-- a job, read strictly: at most ten of each list -/
def jobD (l : List UInt8) : Option (JD × List UInt8) :=
  (numD 7 l).bind fun a => (txtD a.2).bind fun b => (numD 7 b.2).bind fun c => (numD 7 c.2).bind fun d => (numD 7 d.2).bind fun e => (repD (numD 7) (min e.1 10) e.2).bind fun f => (numD 7 f.2).bind fun g => (repD vecD (min g.1 10) g.2).bind fun h => some (⟨a.1, b.1, c.1, d.1, f.1.map (fun n : Nat => (n : Int)), h.1⟩, h.2)
theorem min_ten {e k : Nat} (h : min e 10 ≤ k) (hk : k < 10) : e = min e 10 ∧ e ≤ k := by omega
theorem ints_to {n : Nat} {l : List UInt8} {xs : List Nat} {r : List UInt8} (h : repD (numD 7) n l = some (xs, r)) : pRep pInt n (some l) = (xs.map (fun n : Nat => (n : Int)), some r) :=
  rep_to (P := fun _ => True) (fun l x r h _ => by unfold pInt; rw [num_to h]) h (fun _ _ => trivial)
theorem vecs_to {n : Nat} {l : List UInt8} {xs : List V4} {r : List UInt8} (h : repD vecD n l = some (xs, r)) : pRep pVec n (some l) = (xs, some r) := by
  have := rep_to (c := id) (P := fun _ => True) (g := pVec) (fun l x r h _ => vec_to h) h (fun _ _ => trivial)
  rw [List.map_id] at this
  exact this
theorem ints_from {n : Nat} {l : List UInt8} {ys : List Int} {r : List UInt8} (h : pRep pInt n (some l) = (ys, some r)) (hy : ∀ y ∈ ys, y < 562949953421312) : ∃ xs, repD (numD 7) n l = some (xs, r) ∧ xs.map (fun n : Nat => (n : Int)) = ys :=
  rep_from (Q := fun y : Int => y < 562949953421312) (by rfl) (fun l y r h hq => by
    unfold pInt at h
    cases hp : pNum (some l) with
    | mk a s =>
      rw [hp] at h
      obtain ⟨e1, e2⟩ := Prod.mk.inj h
      simp only at e1 e2
      subst e2
      exact ⟨a, num_from hp (by omega), e1⟩) h hy
theorem vecs_from {n : Nat} {l : List UInt8} {ys : List V4} {r : List UInt8} (h : pRep pVec n (some l) = (ys, some r)) (hy : ∀ y ∈ ys, V4.lt49 y) : repD vecD n l = some (ys, r) := by
  obtain ⟨xs, h1, h2⟩ := rep_from (f := vecD) (c := id) (Q := V4.lt49) (by rfl) (fun l y r h hq => ⟨y, vec_from h hq, rfl⟩) h hy
  rw [List.map_id] at h2
  rw [h2] at h1
  exact h1
theorem strs_to {n : Nat} {l : List UInt8} {xs : List (List UInt8)} {r : List UInt8} (h : repD txtD n l = some (xs, r)) (hx : ∀ x ∈ xs, x.length ≤ 64) : pRep pStr n (some l) = (xs.map (fun s => (⟨⟨s⟩⟩ : ByteArray)), some r) :=
  rep_to (P := fun x : List UInt8 => x.length ≤ 64) (fun l x r h hp => by unfold pStr; rw [txt_to h hp]) h hx
theorem strs_from {n : Nat} {l : List UInt8} {ys : List ByteArray} {r : List UInt8} (h : pRep pStr n (some l) = (ys, some r)) : ∃ xs, repD txtD n l = some (xs, r) ∧ xs.map (fun s => (⟨⟨s⟩⟩ : ByteArray)) = ys :=
  rep_from (Q := fun _ => True) (by rfl) (fun l y r h _ => by
    unfold pStr at h
    cases hp : pTxt (some l) with
    | mk a s =>
      rw [hp] at h
      obtain ⟨e1, e2⟩ := Prod.mk.inj h
      simp only at e1 e2
      subst e2
      exact ⟨a, (txt_from hp).1, e1⟩) h (fun _ _ => trivial)
theorem job_to {l : List UInt8} {j : JD} {r : List UInt8} (h : jobD l = some (j, r)) (h1 : j.tn.length ≤ 64) (h2 : j.pa.length ≤ 4) (h3 : j.tk.length ≤ 6) : pJob (some l) = (j, some r) := by
  unfold jobD at h
  obtain ⟨⟨a, l1⟩, e1, h⟩ := Option.bind_eq_some_iff.1 h
  obtain ⟨⟨b, l2⟩, e2, h⟩ := Option.bind_eq_some_iff.1 h
  obtain ⟨⟨c, l3⟩, e3, h⟩ := Option.bind_eq_some_iff.1 h
  obtain ⟨⟨d, l4⟩, e4, h⟩ := Option.bind_eq_some_iff.1 h
  obtain ⟨⟨e, l5⟩, e5, h⟩ := Option.bind_eq_some_iff.1 h
  obtain ⟨⟨f, l6⟩, e6, h⟩ := Option.bind_eq_some_iff.1 h
  obtain ⟨⟨g, l7⟩, e7, h⟩ := Option.bind_eq_some_iff.1 h
  obtain ⟨⟨k, l8⟩, e8, h⟩ := Option.bind_eq_some_iff.1 h
  obtain ⟨rfl, rfl⟩ := Prod.mk.inj (Option.some.inj h)
  simp only at e1 e2 e3 e4 e5 e6 e7 e8 h1 h2 h3
  have q1 := repD_len e6
  have q2 := repD_len e8
  rw [List.length_map] at h2
  obtain ⟨m1, m2⟩ := min_ten (e := e) (k := 4) (by omega) (by decide)
  obtain ⟨m3, m4⟩ := min_ten (e := g) (k := 6) (by omega) (by decide)
  rw [← m1] at e6
  rw [← m3] at e8
  unfold pJob
  simp only [num_to e1, txt_to e2 h1, num_to e3, num_to e4, up_to e5 m2, ints_to e6, up_to e7 m4, vecs_to e8]
theorem job_from {l : List UInt8} {j : JD} {r : List UInt8} (h : pJob (some l) = (j, some r)) (h1 : j.id < 562949953421312) (h2 : j.pr < 562949953421312) (h3 : j.rt < 562949953421312) (h4 : ∀ y ∈ j.pa, y < 562949953421312) (h5 : ∀ v ∈ j.tk, V4.lt49 v) : jobD l = some (j, r) := by
  unfold pJob at h
  obtain ⟨a, s1, e1⟩ : ∃ n s, pNum (some l) = (n, s) := ⟨_, _, rfl⟩
  obtain ⟨b, s2, e2⟩ : ∃ n s, pTxt s1 = (n, s) := ⟨_, _, rfl⟩
  obtain ⟨c, s3, e3⟩ : ∃ n s, pNum s2 = (n, s) := ⟨_, _, rfl⟩
  obtain ⟨d, s4, e4⟩ : ∃ n s, pNum s3 = (n, s) := ⟨_, _, rfl⟩
  obtain ⟨e, s5, e5⟩ : ∃ n s, pUp 4 s4 = (n, s) := ⟨_, _, rfl⟩
  obtain ⟨f, s6, e6⟩ : ∃ l s, pRep pInt e s5 = (l, s) := ⟨_, _, rfl⟩
  obtain ⟨g, s7, e7⟩ : ∃ n s, pUp 6 s6 = (n, s) := ⟨_, _, rfl⟩
  obtain ⟨k, s8, e8⟩ : ∃ l s, pRep pVec g s7 = (l, s) := ⟨_, _, rfl⟩
  simp only [e1, e2, e3, e4, e5, e6, e7, e8] at h
  obtain ⟨rfl, rfl⟩ := Prod.mk.inj h
  simp only at h1 h2 h3 h4 h5
  have st_up : ∀ {m : Nat} {st : Option (List UInt8)} {n : Nat} {r : List UInt8}, pUp m st = (n, some r) → ∃ l, st = some l := fun h => pNum_st (pUp_st h).2
  have st_rep : ∀ {β : Type} {q : Option (List UInt8) → β × Option (List UInt8)} {n : Nat} {st : Option (List UInt8)} {ys : List β} {r : List UInt8}, (q none).2 = none → pRep q n st = (ys, some r) → ∃ l, st = some l := fun {β q n st ys r} h0 h => by
    cases st with
    | none =>
      have := pRep_none h0 n
      rw [h] at this
      cases this
    | some l => exact ⟨l, rfl⟩
  obtain ⟨l7, rfl⟩ := st_rep (by rfl) e8
  obtain ⟨l6, rfl⟩ := st_up e7
  obtain ⟨l5, rfl⟩ := st_rep (by rfl) e6
  obtain ⟨l4, rfl⟩ := st_up e5
  obtain ⟨l3, rfl⟩ := pNum_st e4
  obtain ⟨l2, rfl⟩ := pNum_st e3
  obtain ⟨l1, rfl⟩ := pTxt_st e2
  obtain ⟨u1, u2⟩ := pUp_st e5
  obtain ⟨u3, u4⟩ := pUp_st e7
  obtain ⟨xs, x1, x2⟩ := ints_from e6 h4
  have y1 := vecs_from e8 h5
  unfold jobD
  rw [num_from e1 h1]
  show Option.bind (txtD l1) _ = _
  rw [(txt_from e2).1]
  show Option.bind (numD 7 l2) _ = _
  rw [num_from e3 h2]
  show Option.bind (numD 7 l3) _ = _
  rw [num_from e4 h3]
  show Option.bind (numD 7 l4) _ = _
  rw [num_from u2 (by omega)]
  show Option.bind (repD (numD 7) (min e 10) l5) _ = _
  rw [show min e 10 = e by omega, x1]
  show Option.bind (numD 7 l6) _ = _
  rw [num_from u4 (by omega)]
  show Option.bind (repD vecD (min g 10) l7) _ = _
  rw [show min g 10 = g by omega, y1]
  show some ((⟨a, b, c, d, xs.map (fun n : Nat => (n : Int)), k⟩ : JD), _) = _
  rw [x2]
end Go.Proofs.Ytnkkiepoljbhlaa

namespace Go.Proofs.Ytnkkiepoljbhlaa
open Go.RowKit

/-- one field, by a strict reader D: all good and read, or bad -/
def OneX {α : Type} (D : List UInt8 → Option (α × List UInt8)) (l : List UInt8) (a : Nat) (bad : Bool) (x : α) (k : Nat) (bad' : Bool) : Prop := (D (l.drop a) = some (x, l.drop k) ∧ bad' = false ∧ bad = false) ∨ (bad' = true ∧ (bad = true ∨ D (l.drop a) = none))
theorem OneX.num {l : List UInt8} {a m k : Nat} {bad bad' : Bool} (h : (numD 7 (l.drop a) = some (m, l.drop k) ∧ bad' = bad) ∨ (numD 7 (l.drop a) = none ∧ bad' = true)) : OneX (numD 7) l a bad m k bad' := by
  rcases h with ⟨h1, h2⟩ | ⟨h1, h2⟩
  · cases bad with
    | true => exact .inr ⟨h2, .inl rfl⟩
    | false => exact .inl ⟨h1, h2, rfl⟩
  · exact .inr ⟨h2, .inr h1⟩
theorem OneX.vec {l : List UInt8} {a k : Nat} {v : V4} {bad bad' : Bool} (h : (vecD (l.drop a) = some (v, l.drop k) ∧ bad' = bad) ∨ (vecD (l.drop a) = none ∧ bad' = true)) : OneX vecD l a bad v k bad' := by
  rcases h with ⟨h1, h2⟩ | ⟨h1, h2⟩
  · cases bad with
    | true => exact .inr ⟨h2, .inl rfl⟩
    | false => exact .inl ⟨h1, h2, rfl⟩
  · exact .inr ⟨h2, .inr h1⟩
section
variable {α β : Type} {D : List UInt8 → Option (α × List UInt8)} {l : List UInt8} {a k m i n : Nat} {x : α} {xs : List α} {bad b1 b2 bad' : Bool}
theorem OneX.good (h : OneX D l a bad x k false) : D (l.drop a) = some (x, l.drop k) ∧ bad = false := by
  rcases h with ⟨h1, _, h2⟩ | ⟨h1, _⟩
  · exact ⟨h1, h2⟩
  · cases h1
theorem OneX.rot (h : OneX D l a bad x k true) : bad = true ∨ D (l.drop a) = none := by
  rcases h with ⟨_, h1, _⟩ | ⟨_, h1⟩
  · cases h1
  · exact h1
theorem repD_none {f : List UInt8 → Option (α × List UInt8)} {i : Nat} {l : List UInt8} (h : repD f i l = none) : ∀ j, repD f (i + j) l = none
  | 0 => h
  | j + 1 => by
    show repD f (i + j + 1) l = none
    rw [repD_snoc, repD_none h j]
    rfl
theorem OneX.start : OneX (repD D 0) l a bad [] a bad := by
  cases bad with
  | true => exact .inr ⟨rfl, .inl rfl⟩
  | false => exact .inl ⟨rfl, rfl, rfl⟩
theorem OneX.snoc (h : OneX (repD D i) l a bad xs k b1) (h1 : OneX D l k b1 x m b2) : OneX (repD D (i + 1)) l a bad (xs ++ [x]) m b2 := by
  cases b1 with
  | true => 
    have hb : b2 = true := by
      rcases h1 with ⟨_, _, q⟩ | ⟨q, _⟩
      · cases q
      · exact q
    refine .inr ⟨hb, ?_⟩
    rcases h.rot with q | q
    · exact .inl q
    · exact .inr (repD_none q 1)
  | false =>
    obtain ⟨g1, g2⟩ := h.good
    cases b2 with
    | true =>
      refine .inr ⟨rfl, .inr ?_⟩
      rw [repD_snoc, g1]
      show (D (l.drop k)).bind _ = _
      rcases h1.rot with q | q
      · cases q
      · rw [q]; rfl
    | false =>
      refine .inl ⟨?_, rfl, g2⟩
      rw [repD_snoc, g1]
      show (D (l.drop k)).bind _ = _
      rw [h1.good.1]
      rfl
/-- a list's end: all are read, or it is bad -/
theorem OneX.enough (h : OneX (repD D i) l a bad xs k b1) (hi : i ≤ n) (he : i = n ∨ b1 = true) : OneX (repD D n) l a bad xs k b1 := by
  rcases he with rfl | rfl
  · exact h
  · refine .inr ⟨rfl, ?_⟩
    rcases h.rot with q | q
    · exact .inl q
    · exact .inr (by rw [← Nat.add_sub_cancel' hi]; exact repD_none q _)
end
theorem job_of {l : List UInt8} {a0 a1 a2 a3 a4 a5 a6 a7 a8 n1 n3 n4 n5 n7 : Nat} {s : List UInt8} {xs : List Nat} {vs : List V4} {bad b1 b2 b3 b4 b5 b6 b7 b8 : Bool} (h1 : OneX (numD 7) l a0 bad n1 a1 b1) (h2 : OneX txtD l a1 b1 s a2 b2) (h3 : OneX (numD 7) l a2 b2 n3 a3 b3) (h4 : OneX (numD 7) l a3 b3 n4 a4 b4) (h5 : OneX (numD 7) l a4 b4 n5 a5 b5) (h6 : OneX (repD (numD 7) (min n5 10)) l a5 b5 xs a6 b6) (h7 : OneX (numD 7) l a6 b6 n7 a7 b7) (h8 : OneX (repD vecD (min n7 10)) l a7 b7 vs a8 b8) : OneX jobD l a0 bad ⟨n1, s, n3, n4, xs.map (fun n : Nat => (n : Int)), vs⟩ a8 b8 := by
  have up : ∀ {α : Type} {D : List UInt8 → Option (α × List UInt8)} {a k : Nat} {x : α} {c d : Bool}, OneX D l a c x k d → c = true → d = true := fun h e => by
    rcases h with ⟨_, _, q⟩ | ⟨q, _⟩
    · rw [q] at e; cases e
    · exact q
  cases bad with
  | true => exact .inr ⟨up h8 (up h7 (up h6 (up h5 (up h4 (up h3 (up h2 (up h1 rfl))))))), .inl rfl⟩
  | false =>
  cases b1 with
  | true =>
    refine .inr ⟨up h8 (up h7 (up h6 (up h5 (up h4 (up h3 (up h2 rfl)))))), .inr ?_⟩
    have q := (h1.rot).resolve_left nofun
    unfold jobD
    rw [q]; rfl
  | false =>
  cases b2 with
  | true =>
    refine .inr ⟨up h8 (up h7 (up h6 (up h5 (up h4 (up h3 rfl))))), .inr ?_⟩
    have q := (h2.rot).resolve_left nofun
    unfold jobD
    simp [h1.good.1, q]
  | false =>
  cases b3 with
  | true =>
    refine .inr ⟨up h8 (up h7 (up h6 (up h5 (up h4 rfl)))), .inr ?_⟩
    have q := (h3.rot).resolve_left nofun
    unfold jobD
    simp [h1.good.1, h2.good.1, q]
  | false =>
  cases b4 with
  | true =>
    refine .inr ⟨up h8 (up h7 (up h6 (up h5 rfl))), .inr ?_⟩
    have q := (h4.rot).resolve_left nofun
    unfold jobD
    simp [h1.good.1, h2.good.1, h3.good.1, q]
  | false =>
  cases b5 with
  | true =>
    refine .inr ⟨up h8 (up h7 (up h6 rfl)), .inr ?_⟩
    have q := (h5.rot).resolve_left nofun
    unfold jobD
    simp [h1.good.1, h2.good.1, h3.good.1, h4.good.1, q]
  | false =>
  cases b6 with
  | true =>
    refine .inr ⟨up h8 (up h7 rfl), .inr ?_⟩
    have q := (h6.rot).resolve_left nofun
    unfold jobD
    simp [h1.good.1, h2.good.1, h3.good.1, h4.good.1, h5.good.1, q]
  | false =>
  cases b7 with
  | true =>
    refine .inr ⟨up h8 rfl, .inr ?_⟩
    have q := (h7.rot).resolve_left nofun
    unfold jobD
    simp [h1.good.1, h2.good.1, h3.good.1, h4.good.1, h5.good.1, h6.good.1, q]
  | false =>
  cases b8 with
  | true =>
    refine .inr ⟨rfl, .inr ?_⟩
    have q := (h8.rot).resolve_left nofun
    unfold jobD
    simp [h1.good.1, h2.good.1, h3.good.1, h4.good.1, h5.good.1, h6.good.1, h7.good.1, q]
  | false =>
    refine .inl ⟨?_, rfl, rfl⟩
    unfold jobD
    simp [h1.good.1, h2.good.1, h3.good.1, h4.good.1, h5.good.1, h6.good.1, h7.good.1, h8.good.1]
end Go.Proofs.Ytnkkiepoljbhlaa
