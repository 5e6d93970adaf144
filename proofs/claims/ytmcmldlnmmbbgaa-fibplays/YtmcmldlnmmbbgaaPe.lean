/-
  The heap in memory; joining a family.
-/
import Derived.Test.YtmcmldlnmmbbgaaPd
namespace Go.Proofs.Ytmcmldlnmmbbgaa
open Go.RowKit Go.Maps

inductive Tg where
  | no | hp | mp | nd | fm (F : Fa)
deriving DecidableEq
structure Mem (w : World) (tg : Nat → Tg) (hb : Nat) (S : HS) : Prop where
  hp : Blk w hb 70 32 S.hpC
  nd : ∀ b ∈ S.X, Blk w b 84 8 (S.ndC b)
  fm : ∀ F, S.val F → Fam w (S.fv F) (S.fl F)
  tp : tg hb = .hp
  tn : ∀ b ∈ S.X, tg b = .nd
  tf : ∀ F, S.val F → ∀ g, (S.fv F).ownBlock = some g → tg g = .fm F
  lt : ∀ k, tg k ≠ .no → k < w.heap.size
def locB (hb : Nat) : Fa → Nat
  | .rt _ => hb
  | .kd p => p
def locO : Fa → Nat
  | .rt i => 2 + i
  | .kd _ => 5
/-- what a call changes: the blocks T, and new ones; the tags stay -/
structure Chg (T : Nat → Prop) (w w' : World) (t t' : Nat → Tg) : Prop where
  kp : Kp T w w'
  tg : ∀ k, k < w.heap.size → t' k = t k
theorem Chg.refl (T : Nat → Prop) (w : World) (tg : Nat → Tg) : Chg T w w tg tg := ⟨Kp.refl _ _, fun _ _ => rfl⟩
theorem Chg.trans {T T' : Nat → Prop} {a b c : World} {t t1 t2 : Nat → Tg} (h : Chg T a b t t1) (k : Chg T' b c t1 t2) (hT : ∀ k, k < a.heap.size → T' k → T k) : Chg T a c t t2 :=
  ⟨h.kp.trans k.kp hT, fun i hi => (k.tg i (Nat.lt_of_lt_of_le hi h.kp.size)).trans (h.tg i hi)⟩
theorem Chg.mono {T T' : Nat → Prop} {a b : World} {t t1 : Nat → Tg} (h : Chg T a b t t1) (hT : ∀ k, k < a.heap.size → T k → T' k) : Chg T' a b t t1 := ⟨h.kp.mono hT, h.tg⟩
theorem Chg.below {T : Nat → Prop} {w w' : World} {tg : Nat → Tg} (b : Below w.heap.size w w') : Chg T w w' tg tg := ⟨Kp.of_below b, fun _ _ => rfl⟩

theorem Mem.keep {w w' : World} {tg : Nat → Tg} {hb : Nat} {S : HS} (h : Mem w tg hb S) (b : Below w.heap.size w w') : Mem w' tg hb S :=
  ⟨h.hp.at (b.block _ h.hp.lt), fun c hc => (h.nd c hc).at (b.block _ (h.nd c hc).lt), fun F hF => (h.fm F hF).keep fun _ hg => b.block _ ((h.fm F hF).lt hg), h.tp, h.tn, h.tf, fun k hk => Nat.lt_of_lt_of_le (h.lt k hk) b.size⟩
theorem hpC_rt (S : HS) {i : Nat} (hi : i < 29) : S.hpC (2 + i) = S.fv (.rt i) := by
  unfold HS.hpC
  rw [if_neg (by omega), if_neg (by omega), if_neg (by omega), show 2 + i - 2 = i by omega]
theorem ndC_kd (S : HS) (p : Nat) : S.ndC p 5 = S.fv (.kd p) := rfl
theorem Mem.loc {w : World} {tg : Nat → Tg} {hb : Nat} {S : HS} (h : Mem w tg hb S) {F : Fa} (hF : S.val F) : ∃ tp np f, Blk w (locB hb F) tp np f ∧ locO F < np ∧ tp ≠ 68 ∧ f (locO F) = S.fv F := by
  cases F with
  | rt i => exact ⟨70, 32, _, h.hp, (by have : i < 29 := hF; show 2 + i < 32; omega), by decide, hpC_rt S hF⟩
  | kd p => exact ⟨84, 8, _, h.nd p hF, (by show 5 < 8; decide), by decide, rfl⟩
/-- the memory behind a change of one family F and one entry's number -/
theorem Mem.turn {w w' : World} {tg tg' : Nat → Tg} {hb : Nat} {S : HS} (h : Mem w tg hb S) {F : Fa} (hF : S.val F) (x : Nat) (hx : x ∈ S.X) (hne : F ≠ .kd x) (l : List Nat) (v : Value) (n : Nat) (pl : Nat → Option Fa)
    (hv : Fam w' v l) (hl : ∀ tp np f, Blk w (locB hb F) tp np f → Blk w' (locB hb F) tp np (fset f (locO F) v)) (hn : Blk w' x 84 8 (fset (S.ndC x) 6 (.int .i64 n)))
    (hk : Kp (fun k => k = locB hb F ∨ k = x ∨ tg k = .fm F) w w') (ht : ∀ k, k < w.heap.size → tg' k = tg k) (hvt : ∀ g, v.ownBlock = some g → tg' g = .fm F) (hlt : ∀ k, tg' k ≠ .no → k < w'.heap.size) :
    Mem w' tg' hb { S with fl := upd S.fl F l, fv := upd S.fv F v, ix := upd S.ix x n, pl := pl } := by
  have hbl : locB hb F < w.heap.size := by obtain ⟨tp, np, f, h1, _⟩ := h.loc hF; exact h1.lt
  refine ⟨?_, fun c hc => ?_, fun G hG => ?_, (ht hb h.hp.lt).trans h.tp, fun c hc => (ht c (h.nd c hc).lt).trans (h.tn c hc), fun G hG g hg => ?_, hlt⟩
  · cases F with
    | rt i =>
      refine (hl _ _ _ h.hp).same fun j hj => ?_
      show fset S.hpC (2 + i) v j = _
      unfold fset HS.hpC upd
      simp only [Fa.rt.injEq]
      by_cases e0 : j = 0
      · subst e0; simp [show ¬ (0 : Nat) = 2 + i by omega]
      by_cases e1 : j = 1
      · subst e1; simp [show ¬ (1 : Nat) = 2 + i by omega]
      by_cases e2 : j = 31
      · have : i < 29 := hF
        subst e2; simp [show ¬ (31 : Nat) = 2 + i by omega]
      by_cases e3 : j = 2 + i
      · subst e3
        simp [show ¬ (2 + i = 1) by omega, e2, show 2 + i - 2 = i by omega]
      · simp [e0, e1, e2, e3, show ¬ (j - 2 = i) by omega]
    | kd p =>
      have hp : hb ≠ p := fun e => by have h1 := h.tp; have h2 := h.tn p hF; rw [e, h2] at h1; cases h1
      have hx' : hb ≠ x := fun e => by have h1 := h.tp; have h2 := h.tn x hx; rw [e, h2] at h1; cases h1
      refine (h.hp.at (hk.block hb h.hp.lt ?_)).same fun j hj => ?_
      · rintro (e | e | e)
        · exact hp e
        · exact hx' e
        · rw [h.tp] at e; cases e
      · unfold HS.hpC upd
        simp
  · by_cases e : c = x
    · subst e
      refine hn.same fun j hj => ?_
      unfold fset HS.ndC upd
      by_cases e6 : j = 6
      · subst e6; simp
      · rw [if_neg e6]
        by_cases e5 : j = 5
        · subst e5; simp [Ne.symm hne]
        · simp [e6, e5]
    · by_cases ep : F = .kd c
      · subst ep
        refine (hl _ _ _ (h.nd c hc)).same fun j hj => ?_
        show fset (S.ndC c) 5 v j = _
        unfold fset HS.ndC upd
        by_cases e5 : j = 5
        · subst e5; simp
        · rw [if_neg e5]
          simp [e5, e]
      · refine ((h.nd c hc).at (hk.block c (h.nd c hc).lt ?_)).same fun j hj => ?_
        · rintro (e' | e' | e')
          · cases F with
            | rt i => have h1 := h.tn c hc; rw [e', show locB hb (.rt i) = hb from rfl, h.tp] at h1; cases h1
            | kd p => exact ep (by rw [e']; rfl)
          · exact e e'
          · have h1 := h.tn c hc; rw [e'] at h1; cases h1
        · unfold HS.ndC upd
          simp [e, Ne.symm ep]
  · have hG' : S.val G := by cases G <;> exact hG
    show Fam w' (upd S.fv F v G) (upd S.fl F l G)
    by_cases e : G = F
    · subst e; rw [upd_same, upd_same]; exact hv
    · rw [upd_other _ _ e, upd_other _ _ e]
      refine (h.fm G hG').keep fun g hg => hk.block g ((h.fm G hG').lt hg) ?_
      have hgt := h.tf G hG' g hg
      rintro (e' | e' | e')
      · subst e'
        cases F with
        | rt i => rw [show locB hb (.rt i) = hb from rfl, h.tp] at hgt; cases hgt
        | kd p => rw [show locB hb (.kd p) = p from rfl, h.tn p hF] at hgt; cases hgt
      · subst e'; rw [h.tn _ hx] at hgt; cases hgt
      · rw [e'] at hgt; cases hgt; exact e rfl
  · have hG' : S.val G := by cases G <;> exact hG
    have hg' : (upd S.fv F v G).ownBlock = some g := hg
    by_cases e : G = F
    · subst e; rw [upd_same] at hg'; exact hvt g hg'
    · rw [upd_other _ _ e] at hg'
      exact (ht g ((h.fm G hG').lt hg')).trans (h.tf G hG' g hg')
theorem join_S {w : World} {tg : Nat → Tg} {hb : Nat} {S : HS} (h : Mem w tg hb S) {F : Fa} (hF : S.val F) {b : Nat} (hx : b ∈ S.X) (hne : F ≠ .kd b) (hl : (S.fl F).length ≤ 1048576) :
    Calls Try.prog 41 #[.pointer (some ⟨locB hb F, locO F, none⟩), ptr b] w fun e w' => e = .returned (.tuple #[]) ∧ ∃ v tg', Mem w' tg' hb (S.join F b v) ∧ Chg (fun k => k = locB hb F ∨ k = b ∨ tg k = .fm F) w w' tg tg' := by
  obtain ⟨tp, np, f, h1, h2, h3, h4⟩ := h.loc hF
  have hpb : locB hb F ≠ b := by
    intro e
    cases F with
    | rt i => have := h.tn b hx; rw [← e, show locB hb (.rt i) = hb from rfl, h.tp] at this; cases this
    | kd p => exact hne (by rw [← e]; rfl)
  refine (join_any w (locB hb F) (locO F) tp np b (S.fv F) (S.fl F) f _ h1 h2 h3 h4 (h.nd b hx) hpb hl (h.fm F hF)).mono ?_
  rintro e w' ⟨rfl, v, k1, k2, k3, k4, k5⟩
  have hkp : Kp (fun k => k = locB hb F ∨ k = b ∨ tg k = .fm F) w w' := k4.mono fun k _ hk => hk.imp_right fun hk => hk.imp_right fun hk => h.tf F hF k hk
  have htg : ∀ k, k < w.heap.size → (fun k => if v.ownBlock = some k then Tg.fm F else if k < w.heap.size then tg k else .no) k = tg k := fun k hk => by
    show (if v.ownBlock = some k then Tg.fm F else if k < w.heap.size then tg k else .no) = tg k
    by_cases e : v.ownBlock = some k
    · rw [if_pos e]
      rcases k5 k e with h5 | h5
      · exact (h.tf F hF k h5).symm
      · omega
    · rw [if_neg e, if_pos hk]
  refine ⟨rfl, v, fun k => if v.ownBlock = some k then Tg.fm F else if k < w.heap.size then tg k else .no, ?_, ⟨hkp, htg⟩⟩
  refine h.turn hF b hx hne (S.fl F ++ [b]) v (S.fl F).length (upd S.pl b (some F)) k1 (fun tp' np' f' hB => ?_) k3 hkp htg (fun g hg => by show (if _ then _ else _) = _; rw [if_pos hg]) (fun k hk => ?_)
  · have e : tp' = tp ∧ np' = np ∧ ∀ j, j < np → f' j = f j := by
      unfold Blk at hB h1
      rw [h1] at hB
      simp only [Option.some.injEq, Obj.cells.injEq] at hB
      have hs := congrArg Array.size hB.1
      simp at hs
      subst hs
      refine ⟨hB.2.1.symm, rfl, fun j hj => ?_⟩
      have := congrArg (fun a => a[j]?) hB.1
      simp [hj] at this
      exact this.symm
    obtain ⟨rfl, rfl, e⟩ := e
    refine k2.same fun j hj => ?_
    unfold fset
    split
    · rfl
    · exact (e j hj).symm
  · have hk' : (if v.ownBlock = some k then Tg.fm F else if k < w.heap.size then tg k else .no) ≠ .no := hk
    by_cases e : v.ownBlock = some k
    · exact k1.lt e
    · rw [if_neg e] at hk'
      split at hk'
      · rename_i h'; exact Nat.lt_of_lt_of_le h' k4.size
      · exact absurd rfl hk'

theorem blk_one {w : World} {b t t' n n' : Nat} {f f' : Nat → Value} (h : Blk w b t n f) (h' : Blk w b t' n' f') : t' = t ∧ n' = n ∧ ∀ j, j < n → f' j = f j := by
  unfold Blk at h h'
  rw [h] at h'
  simp only [Option.some.injEq, Obj.cells.injEq] at h'
  have hs := congrArg Array.size h'.1
  simp at hs
  subst hs
  refine ⟨h'.2.1.symm, rfl, fun j hj => ?_⟩
  have := congrArg (fun a => a[j]?) h'.1
  simp [hj] at this
  exact this.symm
theorem leave_S {w : World} {tg : Nat → Tg} {hb : Nat} {S : HS} (h : Mem w tg hb S) (hL : Lc S) {F : Fa} (hF : S.val F) {b : Nat} (hb' : b ∈ S.X) (hp : S.pl b = some F) (hl : (S.fl F).length ≤ 1048576) :
    Calls Try.prog 42 #[.pointer (some ⟨locB hb F, locO F, none⟩), .pointer (some ⟨b, 0, none⟩)] w fun e w' => e = .returned (.tuple #[]) ∧ ∃ x m v, (S.fl F).length = m + 1 ∧ (S.fl F)[m]? = some x ∧ Mem w' tg hb (S.leave F b x v) ∧ Chg (fun k => k = locB hb F ∨ k = x ∨ tg k = .fm F) w w' tg tg := by
  obtain ⟨tp, np, f, h1, h2, h3, h4⟩ := h.loc hF
  have hi := (hL.plc b hb' F hp).2
  have hne : S.fl F ≠ [] := by intro e; rw [e] at hi; simp at hi
  obtain ⟨g, c, hv⟩ := (h.fm F hF).row hne
  obtain ⟨m, hm⟩ : ∃ m, (S.fl F).length = m + 1 := ⟨(S.fl F).length - 1, by have := List.length_pos_iff.2 hne; omega⟩
  obtain ⟨x, hx⟩ : ∃ x, (S.fl F)[m]? = some x := ⟨_, List.getElem?_eq_getElem (by omega)⟩
  obtain ⟨x1, x2, x3⟩ := hL.fam F hF m x hx
  have hFx : F ≠ .kd x := fun e => hL.slf x x1 (by rw [x2, e])
  have hpx : locB hb F ≠ x := by
    intro e
    cases F with
    | rt i => have := h.tn x x1; rw [← e, show locB hb (.rt i) = hb from rfl, h.tp] at this; cases this
    | kd p => exact hFx (by rw [← e]; rfl)
  have hfm := h.fm F hF
  rw [hm] at hv
  rw [hv] at hfm h4
  have htg : tg g = .fm F := h.tf F hF g (by rw [hv]; rfl)
  refine (leave_any w (locB hb F) (locO F) tp np b x (S.ix b) m g c (S.fl F) f (S.ndC b) (S.ndC x) h1 h2 h3 h4 hfm hm hi hx (h.nd b hb') rfl (h.nd x x1) hpx (by omega)).mono ?_
  rintro e w' ⟨rfl, k1, k2, k3, k4⟩
  have hkp : Kp (fun k => k = locB hb F ∨ k = x ∨ tg k = .fm F) w w' := k4.mono fun k _ hk => hk.imp_right fun hk => hk.imp_right fun hk => by rw [hk]; exact htg
  refine ⟨rfl, x, m, .slice (some ⟨g, 0, none⟩) m c, hm, hx, ?_, ⟨hkp, fun _ _ => rfl⟩⟩
  refine h.turn hF x x1 hFx _ _ (S.ix b) (upd S.pl b none) k1 (fun tp' np' f' hB => ?_) k3 hkp (fun _ _ => rfl) (fun g' hg' => ?_) (fun k hk => Nat.lt_of_lt_of_le (h.lt k hk) k4.size)
  · obtain ⟨rfl, rfl, e⟩ := blk_one h1 hB
    refine k2.same fun j hj => ?_
    unfold fset
    split
    · rfl
    · exact (e j hj).symm
  · have e : g = g' := by simpa [Value.ownBlock] using hg'
    rw [← e]; exact htg
end Go.Proofs.Ytmcmldlnmmbbgaa
