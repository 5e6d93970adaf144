/-
  What holds of a heap, as plain mathematics: places, order, degrees.
-/
import Derived.Test.YtmcmldlnmmbbgaaPe
namespace Go.Proofs.Ytmcmldlnmmbbgaa

def HS.lt (S : HS) (a b : Nat) : Prop := el (S.ky a) (S.hd a) (S.ky b) (S.hd b)
def HS.deg (S : HS) (b : Nat) : Nat := (S.fl (.kd b)).length
/-- an entry's degree, with what it has lost -/
def HS.dv (S : HS) (wk : Option Nat) (c : Nat) : Nat := S.deg c + (if S.lost c then 1 else 0) + (if wk = some c then 1 else 0)
structure Inv (S : HS) (wk : Option Nat) (Z : List Nat) : Prop where
  lc : Lc S
  all : ∀ b ∈ S.X, b ∉ Z → S.pl b ≠ none
  out : ∀ b ∈ Z, b ∈ S.X ∧ S.pl b = none
  rt : ∀ b ∈ S.X, ∀ i, S.pl b = some (.rt i) → S.deg b = i ∧ S.par b = none
  kd : ∀ b ∈ S.X, ∀ p, S.pl b = some (.kd p) → S.par b = some p
  ord : ∀ b ∈ S.X, ∀ p, S.pl b = some (.kd p) → S.lt p b
  dl : ∀ b ∈ S.X, S.deg b < 29
  dg : ∀ p ∈ S.X, ∀ k, (S.fl (.kd p)).countP (fun c => decide (S.dv wk c < k)) ≤ k
  nd : S.X.Nodup
  hu : ∀ a ∈ S.X, ∀ b ∈ S.X, S.hd a = S.hd b → a = b
  hg : ∀ a ∈ S.X, S.hd a < S.gv
  ok : ∀ a ∈ S.X, (S.ky a).ok
  gb : S.gv ≤ 1048576

theorem countP_cut {q : Nat → Bool} {l : List Nat} {m i x : Nat} (hm : l.length = m + 1) (hx : l[m]? = some x) (hi : i < m + 1) : ((l.set i x).dropLast).countP q ≤ l.countP q := by
  obtain ⟨l1, rfl⟩ : ∃ l1, l = l1 ++ [x] := by
    refine ⟨l.dropLast, ?_⟩
    have hne : l ≠ [] := by rintro rfl; simp at hm
    have := List.dropLast_concat_getLast hne
    have e : l.getLast hne = x := by
      rw [List.getLast_eq_getElem]
      obtain ⟨h1, h2⟩ := List.getElem?_eq_some_iff.1 hx
      rw [← h2]
      congr 1
      omega
    rw [e] at this
    exact this.symm
  have hl1 : l1.length = m := by simpa using hm
  rw [List.countP_append]
  by_cases e : i = m
  · subst e
    rw [List.set_append_right _ _ (by omega), show i - l1.length = 0 by omega]
    simp
  · rw [List.set_append_left _ _ (by omega), List.dropLast_concat, List.countP_set (by omega)]
    have : l1.countP q ≥ (if q l1[i] = true then 1 else 0) := by
      by_cases h : q l1[i] = true
      · rw [if_pos h]
        exact List.countP_pos_iff.2 ⟨_, List.getElem_mem _, h⟩
      · rw [if_neg h]; exact Nat.zero_le _
    simp only [List.countP_singleton]
    omega
theorem countP_le {q q' : Nat → Bool} {l : List Nat} (h : ∀ c ∈ l, q' c = true → q c = true) : l.countP q' ≤ l.countP q := List.countP_mono_left h

section
variable {S : HS} {wk : Option Nat} {Z : List Nat}
theorem deg_leave_rt (S : HS) (i b x : Nat) (v : Value) (c : Nat) : (S.leave (.rt i) b x v).deg c = S.deg c := by
  unfold HS.deg HS.leave
  simp only
  rw [upd_other _ _ (by simp)]
theorem Inv.leaveRt (h : Inv S wk Z) {i b x m : Nat} (v : Value) (hb : b ∈ S.X) (hp : S.pl b = some (.rt i)) (hm : (S.fl (.rt i)).length = m + 1) (hx : (S.fl (.rt i))[m]? = some x) : Inv (S.leave (.rt i) b x v) wk (b :: Z) := by
  have hF := (h.lc.plc b hb _ hp).1
  have hpl : ∀ c F, (S.leave (.rt i) b x v).pl c = some F → c ≠ b ∧ S.pl c = some F := fun c F e => by
    have e' : upd S.pl b none c = some F := e
    by_cases ec : c = b
    · subst ec; rw [upd_same] at e'; cases e'
    · rw [upd_other _ _ ec] at e'; exact ⟨ec, e'⟩
  refine ⟨h.lc.leave v hF hb hp hm hx, fun c hc hz => ?_, fun c hc => ?_, fun c hc j e => ?_, fun c hc p e => h.kd c hc p (hpl c _ e).2, fun c hc p e => h.ord c hc p (hpl c _ e).2, fun c hc => ?_, fun p hp' k => ?_, h.nd, h.hu, h.hg, h.ok, h.gb⟩
  · have hcb : c ≠ b := fun e => hz (by simp [e])
    show upd S.pl b none c ≠ none
    rw [upd_other _ _ hcb]
    exact h.all c hc fun e => hz (List.mem_cons_of_mem _ e)
  · show c ∈ S.X ∧ upd S.pl b none c = none
    by_cases ec : c = b
    · subst ec; exact ⟨hb, upd_same _ _ _⟩
    · rw [upd_other _ _ ec]
      exact h.out c ((List.mem_cons.1 hc).resolve_left ec)
  · rw [deg_leave_rt]
    exact h.rt c hc j (hpl c _ e).2
  · rw [deg_leave_rt]; exact h.dl c hc
  · have e : (S.leave (.rt i) b x v).fl (.kd p) = S.fl (.kd p) := by
      unfold HS.leave
      simp only
      rw [upd_other _ _ (by simp)]
    rw [e]
    refine Nat.le_trans (countP_le fun c hc hq => ?_) (h.dg p hp' k)
    have hq' := of_decide_eq_true hq
    refine decide_eq_true ?_
    unfold HS.dv at hq' ⊢
    rw [deg_leave_rt] at hq'
    exact hq'
theorem Inv.leaveKd (h : Inv S wk Z) {p b x m : Nat} (v : Value) (hb : b ∈ S.X) (hp : S.pl b = some (.kd p)) (hnr : ∀ i, S.pl p ≠ some (.rt i)) (hw : wk = none ∨ wk = some b) (hm : (S.fl (.kd p)).length = m + 1) (hx : (S.fl (.kd p))[m]? = some x) : Inv (S.leave (.kd p) b x v) (some p) (b :: Z) := by
  obtain ⟨hF, hi⟩ := h.lc.plc b hb _ hp
  have hpX : p ∈ S.X := hF
  have hil : S.ix b < m + 1 := by rw [← hm]; exact (List.getElem?_eq_some_iff.1 hi).1
  have hpl : ∀ c F, (S.leave (.kd p) b x v).pl c = some F → c ≠ b ∧ S.pl c = some F := fun c F e => by
    have e' : upd S.pl b none c = some F := e
    by_cases ec : c = b
    · subst ec; rw [upd_same] at e'; cases e'
    · rw [upd_other _ _ ec] at e'; exact ⟨ec, e'⟩
  have hdp : (S.leave (.kd p) b x v).deg p = m := by
    unfold HS.deg HS.leave
    simp only
    rw [upd_same, List.length_dropLast, List.length_set]
    omega
  have hdo : ∀ c, c ≠ p → (S.leave (.kd p) b x v).deg c = S.deg c := fun c hc => by
    unfold HS.deg HS.leave
    simp only
    rw [upd_other _ _ (by simpa using hc)]
  have hdp0 : S.deg p = m + 1 := hm
  refine ⟨h.lc.leave v hF hb hp hm hx, fun c hc hz => ?_, fun c hc => ?_, fun c hc j e => ?_, fun c hc p e => h.kd c hc p (hpl c _ e).2, fun c hc p e => h.ord c hc p (hpl c _ e).2, fun c hc => ?_, fun r hr k => ?_, h.nd, h.hu, h.hg, h.ok, h.gb⟩
  · have hcb : c ≠ b := fun e => hz (by simp [e])
    show upd S.pl b none c ≠ none
    rw [upd_other _ _ hcb]
    exact h.all c hc fun e => hz (List.mem_cons_of_mem _ e)
  · show c ∈ S.X ∧ upd S.pl b none c = none
    by_cases ec : c = b
    · subst ec; exact ⟨hb, upd_same _ _ _⟩
    · rw [upd_other _ _ ec]
      exact h.out c ((List.mem_cons.1 hc).resolve_left ec)
  · have e2 := (hpl c _ e).2
    rw [hdo c (fun ec => hnr j (by rw [← ec]; exact e2))]
    exact h.rt c hc j e2
  · by_cases ec : c = p
    · subst ec; have := h.dl c hc; omega
    · rw [hdo c ec]; exact h.dl c hc
  · -- the values of all that stand in a list are at least what they were
    have hv : ∀ c, c ≠ b → S.dv wk c ≤ (S.leave (.kd p) b x v).dv (some p) c := fun c hcb => by
      unfold HS.dv
      have hw' : (if wk = some c then 1 else 0) = 0 := by
        rcases hw with e | e
        · rw [e]; rfl
        · rw [e, if_neg (fun e' => hcb (Option.some.inj e').symm)]
      rw [hw']
      show _ + (if S.lost c then 1 else 0) + 0 ≤ _ + (if S.lost c then 1 else 0) + _
      by_cases ec : c = p
      · subst ec; rw [hdp, if_pos (rfl : some c = some c)]; omega
      · rw [hdo c ec]; omega
    have hnb : ∀ c, c ∈ (S.leave (.kd p) b x v).fl (.kd r) → c ≠ b := fun c hc => by
      obtain ⟨j, hj⟩ := List.getElem?_of_mem hc
      have hr' : (S.leave (.kd p) b x v).val (.kd r) := hr
      have := ((h.lc.leave v hF hb hp hm hx).fam (.kd r) hr' j c hj).2.1
      exact (hpl c _ this).1
    refine Nat.le_trans (countP_le (q := fun c => decide (S.dv wk c < k)) fun c hc hq => ?_) (Nat.le_trans ?_ (h.dg r hr k))
    · have hq' := of_decide_eq_true hq
      exact decide_eq_true (Nat.lt_of_le_of_lt (hv c (hnb c hc)) hq')
    · unfold HS.leave
      simp only
      by_cases er : r = p
      · subst er
        rw [upd_same]
        exact countP_cut hm hx hil
      · rw [upd_other _ _ (by simpa using er)]
        exact Nat.le_refl _

/-- a root is weak without harm -/
theorem Inv.unweak {p : Nat} (h : Inv S (some p) Z) (hp : ∀ r, S.pl p ≠ some (.kd r)) : Inv S none Z := by
  refine ⟨h.lc, h.all, h.out, h.rt, h.kd, h.ord, h.dl, fun r hr k => ?_, h.nd, h.hu, h.hg, h.ok, h.gb⟩
  refine Nat.le_trans (countP_le fun c hc hq => ?_) (h.dg r hr k)
  obtain ⟨j, hj⟩ := List.getElem?_of_mem hc
  have hcp : c ≠ p := fun e => hp r (by rw [← e]; exact (h.lc.fam (.kd r) hr j c hj).2.1)
  have hq' := of_decide_eq_true hq
  refine decide_eq_true ?_
  unfold HS.dv at hq' ⊢
  rw [if_neg (fun e => hcp (Option.some.inj e).symm)]
  simpa using hq'
theorem Inv.losing {p : Nat} (h : Inv S (some p) Z) (hl : S.lost p = false) : Inv { S with lost := upd S.lost p true } none Z := by
  refine ⟨⟨h.lc.fam, h.lc.plc, h.lc.slf⟩, h.all, h.out, h.rt, h.kd, h.ord, h.dl, fun r hr k => ?_, h.nd, h.hu, h.hg, h.ok, h.gb⟩
  refine Nat.le_trans (countP_le fun c hc hq => ?_) (h.dg r hr k)
  have hq' := of_decide_eq_true hq
  refine decide_eq_true ?_
  have hq2 : S.deg c + (if upd S.lost p true c = true then 1 else 0) + 0 < k := hq'
  unfold HS.dv
  by_cases e : c = p
  · subst e
    rw [upd_same] at hq2
    rw [hl]
    simp at hq2 ⊢
    omega
  · rw [upd_other _ _ e] at hq2
    rw [if_neg (fun e' => e (Option.some.inj e').symm)]
    exact hq2
def HS.raise (S : HS) (b : Nat) (v : Value) : HS := HS.join { S with par := upd S.par b none } (.rt (S.deg b)) b v
theorem deg_raise (S : HS) (b : Nat) (v : Value) (c : Nat) : (S.raise b v).deg c = S.deg c := by
  unfold HS.deg HS.raise HS.join
  simp only
  rw [upd_other _ _ (by simp)]
theorem fl_raise (S : HS) (b : Nat) (v : Value) (p : Nat) : (S.raise b v).fl (.kd p) = S.fl (.kd p) := by
  unfold HS.raise HS.join
  simp only
  rw [upd_other _ _ (by simp)]
theorem pl_raise (S : HS) (b : Nat) (v : Value) (c : Nat) : (S.raise b v).pl c = if c = b then some (.rt (S.deg b)) else S.pl c := rfl
theorem Inv.raise (h : Inv S wk Z) {b : Nat} (v : Value) (hb : b ∈ Z) : Inv (S.raise b v) wk (Z.filter (· ≠ b)) := by
  obtain ⟨hX, hp⟩ := h.out b hb
  have hd := h.dl b hX
  have h1 : Lc { S with par := upd S.par b none } := ⟨h.lc.fam, h.lc.plc, h.lc.slf⟩
  have hF : HS.val { S with par := upd S.par b none } (.rt (S.deg b)) := hd
  have hk : ∀ c p, (S.raise b v).pl c = some (.kd p) → c ≠ b ∧ S.pl c = some (.kd p) := fun c p e => by
    rw [pl_raise] at e
    split at e
    · cases e
    · rename_i hc; exact ⟨hc, e⟩
  refine ⟨h1.join v hF hX hp (by simp), fun c hc hz => ?_, fun c hc => ?_, fun c hc j e => ?_, fun c hc p e => ?_, fun c hc p e => h.ord c hc p (hk c p e).2, fun c hc => by rw [deg_raise]; exact h.dl c hc, fun p hp' k => ?_, h.nd, h.hu, h.hg, h.ok, h.gb⟩
  · rw [pl_raise]
    split
    · simp
    · rename_i hcb
      exact h.all c hc fun e => hz (List.mem_filter.2 ⟨e, by simpa using hcb⟩)
  · obtain ⟨z1, z2⟩ := List.mem_filter.1 hc
    have hcb : c ≠ b := by simpa using z2
    rw [pl_raise, if_neg hcb]
    exact h.out c z1
  · rw [deg_raise]
    rw [pl_raise] at e
    show _ ∧ upd S.par b none c = none
    by_cases hcb : c = b
    · subst hcb
      rw [if_pos rfl] at e
      simp only [Option.some.injEq, Fa.rt.injEq] at e
      exact ⟨e, upd_same _ _ _⟩
    · rw [if_neg hcb] at e
      rw [upd_other _ _ hcb]
      exact h.rt c hc j e
  · obtain ⟨e1, e2⟩ := hk c p e
    show upd S.par b none c = _
    rw [upd_other _ _ e1]
    exact h.kd c hc p e2
  · rw [fl_raise]
    refine Nat.le_trans (countP_le fun c hc hq => ?_) (h.dg p hp' k)
    have hq' := of_decide_eq_true hq
    refine decide_eq_true ?_
    unfold HS.dv at hq' ⊢
    rw [deg_raise] at hq'
    exact hq'
def HS.under (S : HS) (a b : Nat) (v : Value) : HS := { S.join (.kd a) b v with par := upd S.par b (some a), lost := upd S.lost b false }
theorem deg_under (S : HS) (a b : Nat) (v : Value) (c : Nat) : (S.under a b v).deg c = if c = a then S.deg a + 1 else S.deg c := by
  unfold HS.deg HS.under HS.join
  simp only
  by_cases e : c = a
  · subst e; rw [upd_same, if_pos rfl]; simp
  · rw [upd_other _ _ (by simpa using e), if_neg e]
theorem pl_under (S : HS) (a b : Nat) (v : Value) (c : Nat) : (S.under a b v).pl c = if c = b then some (.kd a) else S.pl c := rfl
theorem Inv.under (h : Inv S none Z) {a b : Nat} (v : Value) (ha : a ∈ Z) (hb : b ∈ Z) (hab : a ≠ b) (hdg : S.deg b = S.deg a) (hd : S.deg a + 1 < 29) (hlt : S.lt a b) : Inv (S.under a b v) none (Z.filter (· ≠ b)) := by
  obtain ⟨hX, hp⟩ := h.out b hb
  obtain ⟨hXa, hpa⟩ := h.out a ha
  have hJ : Lc (S.join (.kd a) b v) := h.lc.join v hXa hX hp (by simpa using hab)
  refine ⟨⟨hJ.fam, hJ.plc, hJ.slf⟩, fun c hc hz => ?_, fun c hc => ?_, fun c hc j e => ?_, fun c hc p e => ?_, fun c hc p e => ?_, fun c hc => ?_, fun p hp' k => ?_, h.nd, h.hu, h.hg, h.ok, h.gb⟩
  · rw [pl_under]
    split
    · simp
    · rename_i hcb
      exact h.all c hc fun e => hz (List.mem_filter.2 ⟨e, by simpa using hcb⟩)
  · obtain ⟨z1, z2⟩ := List.mem_filter.1 hc
    have hcb : c ≠ b := by simpa using z2
    rw [pl_under, if_neg hcb]
    exact h.out c z1
  · rw [pl_under] at e
    split at e
    · cases e
    · rename_i hcb
      have hca : c ≠ a := fun e' => by rw [e', hpa] at e; cases e
      rw [deg_under, if_neg hca]
      show _ ∧ upd S.par b (some a) c = none
      rw [upd_other _ _ hcb]
      exact h.rt c hc j e
  · rw [pl_under] at e
    show upd S.par b (some a) c = some p
    by_cases hcb : c = b
    · subst hcb
      rw [if_pos rfl] at e
      rw [upd_same]
      simp only [Option.some.injEq, Fa.kd.injEq] at e
      rw [e]
    · rw [if_neg hcb] at e
      rw [upd_other _ _ hcb]
      exact h.kd c hc p e
  · rw [pl_under] at e
    by_cases hcb : c = b
    · subst hcb
      rw [if_pos rfl] at e
      simp only [Option.some.injEq, Fa.kd.injEq] at e
      subst e
      exact hlt
    · rw [if_neg hcb] at e
      exact h.ord c hc p e
  · rw [deg_under]
    split
    · exact hd
    · exact h.dl c hc
  · have hin : ∀ r ∈ S.X, ∀ c ∈ S.fl (.kd r), c ≠ a ∧ c ≠ b := fun r hr c hc => by
      obtain ⟨j, hj⟩ := List.getElem?_of_mem hc
      have := (h.lc.fam (.kd r) hr j c hj).2.1
      exact ⟨fun e => (by rw [e, hpa] at this; cases this), fun e => (by rw [e, hp] at this; cases this)⟩
    have hv : ∀ c, c ≠ a → c ≠ b → (S.under a b v).dv none c = S.dv none c := fun c h1 h2 => by
      unfold HS.dv
      rw [deg_under, if_neg h1]
      show _ + (if upd S.lost b false c = true then 1 else 0) + _ = _
      rw [upd_other _ _ h2]
    have hvb : (S.under a b v).dv none b = S.deg a := by
      unfold HS.dv
      rw [deg_under, if_neg (Ne.symm hab), hdg]
      show _ + (if upd S.lost b false b = true then 1 else 0) + _ = _
      rw [upd_same]
      simp
    have hold : (S.fl (.kd p)).countP (fun c => decide ((S.under a b v).dv none c < k)) ≤ k := by
      refine Nat.le_trans (countP_le fun c hc hq => ?_) (h.dg p hp' k)
      obtain ⟨h1, h2⟩ := hin p hp' c hc
      rw [hv c h1 h2] at hq
      exact hq
    unfold HS.under HS.join
    simp only
    by_cases ep : p = a
    · subst ep
      rw [upd_same]
      show (S.fl (.kd p) ++ [b]).countP (fun c => decide ((S.under p b v).dv none c < k)) ≤ k
      rw [List.countP_append, List.countP_singleton, hvb]
      by_cases hk : k ≤ S.deg p
      · rw [decide_eq_false (by omega)]
        simpa using hold
      · have h1 := List.countP_le_length (p := fun c => decide ((S.under p b v).dv none c < k)) (l := S.fl (.kd p))
        have h2 : S.deg p = (S.fl (.kd p)).length := rfl
        split <;> omega
    · rw [upd_other _ _ (by simpa using ep)]
      exact hold
/-- the entry e is dropped, and its children are nowhere -/
def HS.drop (S : HS) (e : Nat) : HS := { S with X := S.X.filter (· ≠ e), pl := fun c => if S.pl c = some (.kd e) then none else S.pl c }
theorem Inv.drop {e : Nat} (h : Inv S none [e]) : Inv (S.drop e) none (S.fl (.kd e)) := by
  obtain ⟨hX, hp⟩ := h.out e (by simp)
  have mX : ∀ {c}, c ∈ (S.drop e).X → c ∈ S.X ∧ c ≠ e := fun hc => by
    obtain ⟨h1, h2⟩ := List.mem_filter.1 hc
    exact ⟨h1, by simpa using h2⟩
  have toX : ∀ {c}, c ∈ S.X → c ≠ e → c ∈ (S.drop e).X := fun h1 h2 => List.mem_filter.2 ⟨h1, by simpa using h2⟩
  have hpl : ∀ c F, (S.drop e).pl c = some F → S.pl c = some F ∧ F ≠ .kd e := fun c F q => by
    have q' : (if S.pl c = some (.kd e) then none else S.pl c) = some F := q
    split at q'
    · cases q'
    · rename_i hn
      exact ⟨q', fun e' => hn (by rw [q', e'])⟩
  have hvl : ∀ F, (S.drop e).val F → S.val F ∧ F ≠ .kd e := fun F hF => by
    cases F with
    | rt i => exact ⟨hF, by simp⟩
    | kd p => obtain ⟨h1, h2⟩ := mX hF; exact ⟨h1, by simpa using h2⟩
  have hch : ∀ c ∈ S.fl (.kd e), c ∈ S.X ∧ S.pl c = some (.kd e) := fun c hc => by
    obtain ⟨j, hj⟩ := List.getElem?_of_mem hc
    obtain ⟨h1, h2, _⟩ := h.lc.fam (.kd e) hX j c hj
    exact ⟨h1, h2⟩
  refine ⟨⟨fun F hF j b hb => ?_, fun b hb F hF => ?_, fun b hb q => ?_⟩, fun c hc hz => ?_, fun c hc => ?_, fun c hc j q => h.rt c (mX hc).1 j (hpl c _ q).1, fun c hc p q => h.kd c (mX hc).1 p (hpl c _ q).1, fun c hc p q => h.ord c (mX hc).1 p (hpl c _ q).1, fun c hc => h.dl c (mX hc).1, fun p hp' k => h.dg p (mX hp').1 k, h.nd.filter _, fun a ha b hb => h.hu a (mX ha).1 b (mX hb).1, fun a ha => h.hg a (mX ha).1, fun a ha => h.ok a (mX ha).1, h.gb⟩
  · obtain ⟨h1, h2⟩ := hvl F hF
    obtain ⟨k1, k2, k3⟩ := h.lc.fam F h1 j b hb
    refine ⟨toX k1 fun q => (by rw [q, hp] at k2; cases k2), ?_, k3⟩
    show (if S.pl b = some (.kd e) then none else S.pl b) = some F
    rw [k2, if_neg (fun q => h2 (Option.some.inj q))]
  · obtain ⟨k1, k2⟩ := hpl b F hF
    obtain ⟨k3, k4⟩ := h.lc.plc b (mX hb).1 F k1
    refine ⟨?_, k4⟩
    cases F with
    | rt i => exact k3
    | kd p => exact toX k3 (by simpa using k2)
  · exact h.lc.slf b (mX hb).1 (hpl b _ q).1
  · obtain ⟨k1, k2⟩ := mX hc
    show (if S.pl c = some (.kd e) then none else S.pl c) ≠ none
    split
    · rename_i q
      exact absurd (by
        obtain ⟨_, k4⟩ := h.lc.plc c k1 _ q
        exact List.mem_of_getElem? k4) hz
    · exact h.all c k1 (by simpa using k2)
  · obtain ⟨k1, k2⟩ := hch c hc
    refine ⟨toX k1 fun q => (by rw [q, hp] at k2; cases k2), ?_⟩
    show (if S.pl c = some (.kd e) then none else S.pl c) = none
    rw [if_pos k2]
end
end Go.Proofs.Ytmcmldlnmmbbgaa
