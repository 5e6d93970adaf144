/-
  The tasks' turns, as plain data.
-/
import Derived.Test.YtjgibngnjlciaaaGreatPa
namespace Go.Proofs.YtjgibngnjlciaaaGreat

def tg (T : List V) (i : Nat) : V := T.getD i default
theorem tg_some {T : List V} {i : Nat} {v : V} (h : T[i]? = some v) : tg T i = v := by unfold tg; rw [List.getD_eq_getElem?_getD, h]; rfl
theorem tg_lt {T : List V} {i : Nat} (h : i < T.length) : T[i]? = some (tg T i) := by
  rw [List.getElem?_eq_getElem h, tg_some (List.getElem?_eq_getElem h)]
/-- greater -/
def V.gt (u v : V) : Prop := v.a < u.a ∨ (u.a = v.a ∧ (v.b < u.b ∨ (u.b = v.b ∧ (v.c < u.c ∨ (u.c = v.c ∧ v.d < u.d)))))
instance (u v : V) : Decidable (V.gt u v) := by unfold V.gt; infer_instance
def cmV (u v : V) : Int := cm u.a u.b u.c u.d v.a v.b v.c v.d
theorem cm_neg (u v : V) : cmV u v < 0 ↔ V.gt v u := by
  unfold cmV cm o1 V.gt
  repeat' split
  all_goals omega
theorem cm_pos (u v : V) : 0 < cmV u v ↔ V.gt u v := by
  unfold cmV cm o1 V.gt
  repeat' split
  all_goals omega
theorem V.ext4 {u v : V} (h : u.a = v.a ∧ u.b = v.b ∧ u.c = v.c ∧ u.d = v.d) : u = v := by
  obtain ⟨a, b, c, d⟩ := u
  obtain ⟨e, f, g, h'⟩ := v
  simp only at h
  obtain ⟨rfl, rfl, rfl, rfl⟩ := h
  rfl
theorem gt_total (u v : V) : V.gt u v ∨ u = v ∨ V.gt v u := by
  by_cases h : u.a = v.a ∧ u.b = v.b ∧ u.c = v.c ∧ u.d = v.d
  · exact .inr (.inl (V.ext4 h))
  · unfold V.gt
    omega
theorem gt_trans {u v w : V} (h1 : V.gt u v) (h2 : V.gt v w) : V.gt u w := by
  unfold V.gt at *
  omega
theorem gt_irrefl (u : V) : ¬ V.gt u u := by
  unfold V.gt
  omega
/-- whose turn comes first -/
def bef (T : List V) (i j : Nat) : Prop := V.gt (tg T i) (tg T j) ∨ (tg T i = tg T j ∧ i < j)
instance (T : List V) (i j : Nat) : Decidable (bef T i j) := by unfold bef; infer_instance
theorem bef_irrefl (T : List V) (i : Nat) : ¬ bef T i i := fun h => by
  rcases h with h | h
  · exact gt_irrefl _ h
  · omega
theorem bef_trans {T : List V} {i j k : Nat} (h1 : bef T i j) (h2 : bef T j k) : bef T i k := by
  unfold bef at *
  rcases h1 with h1 | ⟨e1, l1⟩ <;> rcases h2 with h2 | ⟨e2, l2⟩
  · exact .inl (gt_trans h1 h2)
  · rw [← e2]; exact .inl h1
  · rw [e1]; exact .inl h2
  · exact .inr ⟨e1.trans e2, Nat.lt_trans l1 l2⟩
theorem bef_total {T : List V} {i j : Nat} (h : i ≠ j) : bef T i j ∨ bef T j i := by
  unfold bef
  rcases gt_total (tg T i) (tg T j) with q | q | q
  · exact .inl (.inl q)
  · rcases Nat.lt_or_gt_of_ne h with r | r
    · exact .inl (.inr ⟨q, r⟩)
    · exact .inr (.inr ⟨q.symm, r⟩)
  · exact .inr (.inl q)
/-- the turns -/
def Ord (T : List V) (L : List Nat) : Prop := L.Perm (List.range T.length) ∧ L.Pairwise (bef T)
theorem Ord.uniq {T : List V} {L M : List Nat} (h : Ord T L) (k : Ord T M) : L = M := by
  refine List.Perm.eq_of_pairwise (le := bef T) (fun a b _ _ h1 h2 => absurd (bef_trans h1 h2) (bef_irrefl T a)) h.2 k.2 (h.1.trans k.1.symm)
theorem Ord.lt {T : List V} {L : List Nat} (h : Ord T L) {x : Nat} (hx : x ∈ L) : x < T.length := List.mem_range.1 (h.1.mem_iff.1 hx)
theorem Ord.length {T : List V} {L : List Nat} (h : Ord T L) : L.length = T.length := by rw [h.1.length_eq, List.length_range]
def insO (T : List V) (x : Nat) : List Nat → List Nat
  | [] => [x]
  | y :: r => if bef T x y then x :: y :: r else y :: insO T x r
def ordT (T : List V) : List Nat := (List.range T.length).foldr (insO T) []
theorem insO_perm (T : List V) (x : Nat) : ∀ l, (insO T x l).Perm (x :: l)
  | [] => List.Perm.refl _
  | y :: r => by
    unfold insO
    split
    · exact List.Perm.refl _
    · exact ((insO_perm T x r).cons y).trans (List.Perm.swap _ _ _)
theorem insO_pw (T : List V) (x : Nat) : ∀ l, x ∉ l → l.Pairwise (bef T) → (insO T x l).Pairwise (bef T)
  | [], _, _ => List.pairwise_singleton _ _
  | y :: r, hx, h => by
    have h1 := List.pairwise_cons.1 h
    unfold insO
    split
    · rename_i q
      exact List.pairwise_cons.2 ⟨fun z hz => by
        rcases List.mem_cons.1 hz with rfl | hz
        · exact q
        · exact bef_trans q (h1.1 z hz), h⟩
    · rename_i q
      have hne : x ≠ y := fun e => hx (by rw [e]; exact List.mem_cons_self ..)
      have hyx : bef T y x := (bef_total hne).resolve_left q
      refine List.pairwise_cons.2 ⟨fun z hz => ?_, insO_pw T x r (fun e => hx (List.mem_cons_of_mem _ e)) h1.2⟩
      rcases List.mem_cons.1 ((insO_perm T x r).mem_iff.1 hz) with rfl | hz
      · exact hyx
      · exact h1.1 z hz
theorem fold_ord (T : List V) : ∀ l : List Nat, l.Nodup → (l.foldr (insO T) []).Perm l ∧ (l.foldr (insO T) []).Pairwise (bef T)
  | [], _ => ⟨List.Perm.refl _, List.Pairwise.nil⟩
  | x :: r, h => by
    obtain ⟨h1, h2⟩ := fold_ord T r (List.nodup_cons.1 h).2
    refine ⟨(insO_perm T x _).trans (h1.cons x), insO_pw T x _ (fun e => (List.nodup_cons.1 h).1 (h1.mem_iff.1 e)) h2⟩
theorem ordT_ord (T : List V) : Ord T (ordT T) := fold_ord T _ List.nodup_range
/-! ### one is put in -/
theorem ins_fin {T : List V} {A : List Nat} {x j : Nat} (hA : A.Pairwise (bef T)) (hp : A.Perm (List.range x)) (hd : ∀ y ∈ A.drop j, bef T x y) (hk : j = 0 ∨ ∃ y, A[j - 1]? = some y ∧ ¬ V.gt (tg T x) (tg T y)) :
    (A.take j ++ x :: A.drop j).Pairwise (bef T) ∧ (A.take j ++ x :: A.drop j).Perm (List.range (x + 1)) := by
  constructor
  · have h0 : (A.take j ++ A.drop j).Pairwise (bef T) := by rw [List.take_append_drop]; exact hA
    obtain ⟨h1, h2, h3⟩ := List.pairwise_append.1 h0
    have hl : ∀ z ∈ A.take j, bef T z x := fun z hz => by
      rcases hk with rfl | ⟨y, hy, hn⟩
      · simp at hz
      · have hy' : y < x := List.mem_range.1 (hp.mem_iff.1 (List.mem_of_getElem? hy))
        have hyx : bef T y x := by
          rcases gt_total (tg T y) (tg T x) with q | q | q
          · exact .inl q
          · exact .inr ⟨q, hy'⟩
          · exact absurd q hn
        by_cases e : z = y
        · rw [e]; exact hyx
        · refine bef_trans ?_ hyx
          obtain ⟨i, hi, e1⟩ := List.getElem_of_mem hz
          rw [List.length_take] at hi
          rw [List.getElem_take] at e1
          obtain ⟨l1, e2⟩ := List.getElem?_eq_some_iff.1 hy
          have : i ≠ j - 1 := fun q => by subst q; exact e (e1.symm.trans e2)
          have := List.pairwise_iff_getElem.1 hA i (j - 1) (by omega) l1 (by omega)
          rwa [e1, e2] at this
    refine List.pairwise_append.2 ⟨h1, List.pairwise_cons.2 ⟨hd, h2⟩, fun a ha b hb => ?_⟩
    rcases List.mem_cons.1 hb with rfl | hb
    · exact hl a ha
    · exact h3 a ha b hb
  · rw [List.range_succ]
    refine List.perm_middle.trans ?_
    rw [List.take_append_drop]
    exact (hp.cons x).trans (List.perm_append_singleton x _).symm
theorem shift_eq {α : Type} {A : List α} {t : Nat} {z : α} (h : A[t]? = some z) (x : α) (R : List α) : ((A.take (t + 1) ++ x :: A.drop (t + 1) ++ R).set (t + 1) z).set t x = A.take t ++ x :: A.drop t ++ R := by
  obtain ⟨hl, rfl⟩ := List.getElem?_eq_some_iff.1 h
  have h1 : (A.take (t + 1)).length = t + 1 := by rw [List.length_take]; omega
  have h0 : (A.take t).length = t := by rw [List.length_take]; omega
  rw [List.append_assoc, List.set_append_right _ _ (by omega), h1, Nat.sub_self, List.cons_append, List.set_cons_zero, List.take_succ_eq_append_getElem hl, List.append_assoc, List.set_append_right _ _ (by omega), h0, Nat.sub_self, List.singleton_append, List.set_cons_zero, List.drop_eq_getElem_cons hl, List.append_assoc]
  rfl
end Go.Proofs.YtjgibngnjlciaaaGreat
