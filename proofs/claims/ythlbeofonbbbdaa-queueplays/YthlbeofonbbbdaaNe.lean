/-
  The line's entries moved: swap, turn.
-/
import Derived.Test.YthlbeofonbbbdaaNd
namespace Go.Proofs.Ythlbeofonbbbdaa
open Go.RowKit Go.Maps

def lsw (l : List Nat) (i j : Nat) : List Nat := (l.set j (l.getD i 0)).set i (l.getD j 0)
section
variable {l : List Nat} {i j : Nat}
theorem getD_get (hi : i < l.length) : l.getD i 0 = l[i] := by rw [List.getD_eq_getElem?_getD, List.getElem?_eq_getElem hi]; rfl
theorem lsw_perm (hi : i < l.length) (hj : j < l.length) : (lsw l i j).Perm l := by
  unfold lsw
  have := List.set_set_perm hj hi
  rw [getD_get hi, getD_get hj]
  exact this
theorem lsw_length : (lsw l i j).length = l.length := by unfold lsw; simp
theorem lsw_getD (hi : i < l.length) (hj : j < l.length) (k : Nat) : (lsw l i j).getD k 0 = if k = i then l.getD j 0 else if k = j then l.getD i 0 else l.getD k 0 := by
  unfold lsw
  simp only [List.getD_eq_getElem?_getD]
  by_cases h1 : k = i
  · subst h1
    rw [List.getElem?_set_self (by simpa using hi), if_pos rfl]; rfl
  · rw [List.getElem?_set_ne (fun e => h1 e.symm), if_neg h1]
    by_cases h2 : k = j
    · subst h2
      rw [List.getElem?_set_self hj, if_pos rfl]; rfl
    · rw [List.getElem?_set_ne (fun e => h2 e.symm), if_neg h2]
theorem lsw_v (S : HS) (hi : i < S.l.length) (hj : j < S.l.length) : (S.wl (lsw S.l i j)).v = sw S.v i j := by
  funext k
  unfold HS.v sw
  show S.en ((lsw S.l i j).getD k 0) = _
  rw [lsw_getD hi hj]
  split
  · rfl
  · split <;> rfl
theorem nodup_get {a b : Nat} (h : l.Nodup) (ha : a < l.length) (hb : b < l.length) (e : l.getD a 0 = l.getD b 0) : a = b := by
  exact (List.getElem?_inj ha h).1 (by rw [some_of ha, some_of hb, e])
end
/-- the line and the entries -/
def Fl (S : HS) (k : Nat) : Prop := k ∈ S.l ∨ S.lv.ownBlock = some k
structure Mv (w w' : World) (hb : Nat) (S : HS) (l' : List Nat) : Prop where
  m : Mem w' hb (S.wl l')
  p : l'.Perm S.l
  k : Kp (Fl S) w w'
section
variable {w w' w1 w2 : World} {hb : Nat} {S S' S1 S2 : HS} {l1 l2 : List Nat}
theorem Mv.refl (h : Mem w hb S) : Mv w w hb S S.l := ⟨h, List.Perm.refl _, Kp.refl _ _⟩
theorem Mv.drew (h : Mv w w' hb S l1) (m : Nat) : Mv w (w'.drewN m) hb S l1 := ⟨h.m.drew m, h.p, h.k.drew m⟩
theorem Mv.trans (h : Mv w w1 hb S l1) (k : Mv w1 w2 hb (S.wl l1) l2) : Mv w w2 hb S l2 :=
  ⟨k.m, k.p.trans h.p, h.k.trans k.k fun _ _ q => q.imp (fun q => h.p.mem_iff.1 q) id⟩
theorem Mv.len (h : Mv w w' hb S l1) : l1.length = S.l.length := h.p.length_eq
theorem ndC_set (b i j : Nat) (k : Nat) (hk : k < 5) : fset (S.ndC b i) 4 (.int .i64 j) k = S.ndC b j k := by
  unfold fset HS.ndC
  by_cases e : k = 4
  · subst e; rfl
  · rcases (by omega : k = 0 ∨ k = 1 ∨ k = 2 ∨ k = 3) with rfl | rfl | rfl | rfl <;> rfl
theorem ndC_set2 (b i j n : Nat) (k : Nat) (hk : k < 5) : fset (fset (S.ndC b i) 4 (.int .i64 n)) 4 (.int .i64 j) k = S.ndC b j k := by
  unfold fset HS.ndC
  by_cases e : k = 4
  · subst e; rfl
  · rcases (by omega : k = 0 ∨ k = 1 ∨ k = 2 ∨ k = 3) with rfl | rfl | rfl | rfl <;> rfl
theorem Fam.gg {w : World} {g n c : Nat} {l : List Nat} (h : Fam w (.slice (some ⟨g, 0, none⟩) n c) l) : ∃ cs, w.heap[g]? = some (.cells cs 95 (0, 0)) := by
  rcases h.2 with ⟨e, _⟩ | ⟨g', cap, cur, e, hb, hgg, _⟩
  · cases e
  · cases e
    exact ⟨_, hgg⟩
theorem fam_other {w : World} {v : Value} {l : List Nat} (h : Fam w v l) (p : Addr) (u : Value) (hp : v.ownBlock ≠ some p.block) : Fam (w.setCell p u) v l := h.keep fun k hk => Below.heap_setCell w p u k fun e => hp (by rw [← e]; exact hk)
theorem swap_S (h : Mem w hb S) {i j : Nat} (hi : i < S.l.length) (hj : j < S.l.length) :
    Calls Try.prog 84 #[.pointer (some ⟨hb, 0, none⟩), .int .i64 i, .int .i64 j] w fun e w' => e = .returned (.tuple #[]) ∧ Mv w w' hb S (lsw S.l i j) := by
  obtain ⟨g, c, e⟩ := h.fm.row (by rintro q; rw [q] at hi; simp at hi)
  have hF := h.fm
  rw [e] at hF
  have si := some_of hi
  have sj := some_of hj
  have ni := h.nd _ _ si
  have nj := h.nd _ _ sj
  have hgi : S.l.getD i 0 ≠ g := fun q => hF.ne ni (by decide) (by rw [q]; rfl)
  have hgj : S.l.getD j 0 ≠ g := fun q => hF.ne nj (by decide) (by rw [q]; rfl)
  have hgh : hb ≠ g := fun q => hF.ne h.hp (by decide) (by rw [q]; rfl)
  have hhi : hb ≠ S.l.getD i 0 := blk_ne h.hp ni (by decide)
  have hhj : hb ≠ S.l.getD j 0 := blk_ne h.hp nj (by decide)
  refine (swap_raw w hb g S.l.length c i j (S.l.getD i 0) (S.l.getD j 0) _ _ S.hpC h.hp (by show S.lv = _; exact e) hi hj (hF.cell si).1 (hF.cell sj).1 (hF.cell si).2 (hF.cell sj).2 ni nj hF.gg).mono ?_
  rintro q w' ⟨rfl, m, rfl⟩
  refine ⟨rfl, ?_⟩
  have hm := h.drew m
  have kd : Kp (Fl S) w (w.drewN m) := (Kp.refl _ w).drew m
  generalize w.drewN m = W at *
  have hp := lsw_perm hi hj
  refine ⟨⟨?_, fun k z hz => ?_, ?_, hp.nodup_iff.2 h.no, fun b hb' => h.ok b (hp.mem_iff.1 hb'), by rw [show (S.wl (lsw S.l i j)).l = lsw S.l i j from rfl, lsw_length]; exact h.sm⟩, hp, ?_⟩
  · exact (((hm.hp.other ⟨g, j, none⟩ _ (fun q => hgh q.symm)).other ⟨S.l.getD i 0, 4, none⟩ _ (fun q => hhi q.symm)).other ⟨g, i, none⟩ _ (fun q => hgh q.symm)).other ⟨S.l.getD j 0, 4, none⟩ _ (fun q => hhj q.symm)
  · have hk : k < S.l.length := by
      have := (List.getElem?_eq_some_iff.1 hz).1
      rwa [show (S.wl (lsw S.l i j)).l = lsw S.l i j from rfl, lsw_length] at this
    have hzv : (lsw S.l i j).getD k 0 = z := getD_of hz
    rw [lsw_getD hi hj] at hzv
    have nij : S.l.getD i 0 = S.l.getD j 0 → i = j := nodup_get h.no hi hj
    show Blk _ z 104 5 (S.ndC z k)
    by_cases e1 : k = i
    · rw [if_pos e1] at hzv
      subst e1
      subst hzv
      have b1 := (hm.nd _ _ sj).other ⟨g, j, none⟩ (.pointer (some ⟨S.l.getD k 0, 0, none⟩)) (fun q => hgj q.symm)
      by_cases e2 : S.l.getD k 0 = S.l.getD j 0
      · have e3 := nij e2
        subst e3
        exact (((b1.set 4 (.int .i64 k)).other ⟨g, k, none⟩ _ (fun q => hgj q.symm)).set 4 _).same fun r hr => ndC_set2 _ _ _ _ r hr
      · exact (((b1.other ⟨S.l.getD k 0, 4, none⟩ _ e2).other ⟨g, k, none⟩ _ (fun q => hgj q.symm)).set 4 _).same fun r hr => ndC_set _ _ _ r hr
    · rw [if_neg e1] at hzv
      by_cases e2 : k = j
      · rw [if_pos e2] at hzv
        subst e2
        subst hzv
        have b1 := (hm.nd _ _ si).other ⟨g, k, none⟩ (.pointer (some ⟨S.l.getD i 0, 0, none⟩)) (fun q => hgi q.symm)
        have ne : S.l.getD k 0 ≠ S.l.getD i 0 := fun q => e1 (nij q.symm).symm
        exact (((b1.set 4 (.int .i64 k)).other ⟨g, i, none⟩ _ (fun q => hgi q.symm)).other ⟨S.l.getD k 0, 4, none⟩ _ ne).same fun r hr => ndC_set _ _ _ r hr
      · rw [if_neg e2] at hzv
        subst hzv
        have sk := some_of hk
        have hgk : S.l.getD k 0 ≠ g := fun q => hF.ne (h.nd _ _ sk) (by decide) (by rw [q]; rfl)
        have n1 : S.l.getD i 0 ≠ S.l.getD k 0 := fun q => e1 (nodup_get h.no hi hk q).symm
        have n2 : S.l.getD j 0 ≠ S.l.getD k 0 := fun q => e2 (nodup_get h.no hj hk q).symm
        exact ((((hm.nd _ _ sk).other ⟨g, j, none⟩ _ (fun q => hgk q.symm)).other ⟨S.l.getD i 0, 4, none⟩ _ n1).other ⟨g, i, none⟩ _ (fun q => hgk q.symm)).other ⟨S.l.getD j 0, 4, none⟩ _ n2
  · have hF' := hm.fm
    rw [e] at hF'
    have o1 : ∀ x, x ≠ g → (Value.slice (some ⟨g, 0, none⟩) S.l.length c).ownBlock ≠ some x := fun x hx q => hx (by simpa [Value.ownBlock] using q.symm)
    show Fam _ S.lv (lsw S.l i j)
    rw [e]
    exact fam_other ((fam_other (hF'.set j (S.l.getD i 0)) ⟨S.l.getD i 0, 4, none⟩ _ (o1 _ hgi)).set i (S.l.getD j 0)) ⟨S.l.getD j 0, 4, none⟩ _ (o1 _ hgj)
  · have f1 : Fl S g := .inr (by rw [e]; rfl)
    have f2 : Fl S (S.l.getD i 0) := .inl (List.mem_of_getElem? si)
    have f3 : Fl S (S.l.getD j 0) := .inl (List.mem_of_getElem? sj)
    exact (((kd.trans (Kp.of_set (S := Fl S) _ ⟨g, j, none⟩ _ f1) fun _ _ h => h).trans (Kp.of_set (S := Fl S) _ ⟨S.l.getD i 0, 4, none⟩ _ f2) fun _ _ h => h).trans (Kp.of_set (S := Fl S) _ ⟨g, i, none⟩ _ f1) fun _ _ h => h).trans (Kp.of_set (S := Fl S) _ ⟨S.l.getD j 0, 4, none⟩ _ f3) fun _ _ h => h
end

set_option maxHeartbeats 400000 in
theorem turn_raw (w : World) (hb p i j : Nat) (B : Bool) (R : World → Prop) (H39 : Hid (Calls Try.prog 60 #[.pointer (some ⟨hb, 0, none⟩), .int .i64 p, .int .i64 0] w fun e w' => e = .returned (.int .i64 i) ∧ w' = w)) (H39b : Hid (Calls Try.prog 60 #[.pointer (some ⟨hb, 0, none⟩), .int .i64 p, .int .i64 1] w fun e w' => e = .returned (.int .i64 j) ∧ w' = w))
    (H42 : Hid (Calls Try.prog 99 #[.pointer (some ⟨hb, 0, none⟩), .int .i64 j, .int .i64 i, .int .i64 0] w fun e w' => e = .returned (.bool B) ∧ ∃ m, w' = w.drewN m))
    (H41 : Hid (B = true → ∀ m, Calls Try.prog 84 #[.pointer (some ⟨hb, 0, none⟩), .int .i64 i, .int .i64 j] (w.drewN m) fun e w' => e = .returned (.tuple #[]) ∧ Hid (R w'))) (HN : Hid (B = false → ∀ m, R (w.drewN m))) :
    Calls Try.prog 85 #[.pointer (some ⟨hb, 0, none⟩), .int .i64 p] w fun e w' => e = .returned (.tuple #[]) ∧ R w' := by
  go_enter Try.func85, Try.ntmps85
  go_upto_region 1 with (first | (go_at_call_of 60 (Value.int .i64 1); refine H39b.out.mono ?_; rintro e w1 ⟨rfl, rfl⟩) | (go_at_call 60; refine H39.out.mono ?_; rintro e w1 ⟨rfl, rfl⟩))
  cases B with
  | true =>
    have H := H41.out rfl
    go_wp2_with (first | (go_at_call 99; refine H42.out.mono ?_; rintro e w2 ⟨rfl, m, rfl⟩) | (go_at_call 84; refine (H _).mono ?_; rintro e w2 ⟨rfl, R2⟩))
    go_end0
    exact ⟨rfl, R2.out⟩
  | false =>
    have H : Hid _ := HN.out rfl
    go_wp2_with (go_at_call 99; refine H42.out.mono ?_; rintro e w2 ⟨rfl, m, rfl⟩)
    go_end0
    exact ⟨rfl, H.out _⟩
section
variable {w w' w1 w2 : World} {hb : Nat} {S S' S1 S2 : HS} {l1 l2 : List Nat}
theorem turn_S (h : Mem w hb S) {p : Nat} (hp : 2 * p < S.l.length) :
    Calls Try.prog 85 #[.pointer (some ⟨hb, 0, none⟩), .int .i64 p] w fun e w' => e = .returned (.tuple #[]) ∧ ∃ l', Mv w w' hb S l' ∧ (S.wl l').v = tn S.l.length S.v p := by
  have p0 : P S.l.length 0 p < S.l.length := P_lt hp
  have p1 : P S.l.length 1 p < S.l.length := P_lt hp
  refine turn_raw w hb p (P S.l.length 0 p) (P S.l.length 1 p) (outB S 0 (P S.l.length 1 p) (P S.l.length 0 p)) (fun w' => ∃ l', Mv w w' hb S l' ∧ (S.wl l').v = tn S.l.length S.v p) (end_S h hp (by decide)) (end_S h hp (by decide)) (out_S h p1 p0 (by decide)) (fun q m => ?_) (fun q m => ?_)
  · refine (swap_S (h.drew m) p0 p1).mono ?_
    rintro e w1 ⟨rfl, M⟩
    refine ⟨rfl, _, ⟨M.m, M.p, ((Kp.refl _ w).drew m).trans M.k fun _ _ h => h⟩, ?_⟩
    rw [lsw_v S p0 p1]
    unfold tn
    rw [if_pos (show S.v (P S.l.length 1 p) < S.v (P S.l.length 0 p) from of_decide_eq_true q)]
  · refine ⟨S.l, (Mv.refl h).drew m, ?_⟩
    unfold tn
    rw [if_neg (show ¬ S.v (P S.l.length 1 p) < S.v (P S.l.length 0 p) from of_decide_eq_false q)]
    rfl
end
end Go.Proofs.Ythlbeofonbbbdaa
